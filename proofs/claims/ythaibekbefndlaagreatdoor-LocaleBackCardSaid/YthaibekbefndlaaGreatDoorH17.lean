/-
  Joined: LdB, LdF, LdI. Each with what its own head says.
-/
import Derived.Test.YthaibekbefndlaaGreatDoorH15

namespace Go.Proofs.YthaibekbefndlaaGreatDoor.C
open Go.RowKit

section
variable (w : World) (lo R : Nat) (T : TV) (k : Nat) (v1 v2 v3 v4 : Value) (M : Nat) (d : List (List UInt8 × List Int))
set_option maxRecDepth 100000 in
set_option maxHeartbeats 8000000 in
theorem element_any (h : CU w R T k v1 v2 v3 v4 (.map (some M))) (hN : TxtOk T) (hE : Ended (T.ts.drop k)) (hd : DeAt w lo M d) (hlw : lo ≤ w.heap.size) :
  Calls Tryz.prog 78 #[.pointer (some ⟨R, 0, none⟩)] w (EdTold w lo R T v1 v2 v3 v4 M (elmL d (T.ts.drop k))) := by
 obtain ⟨x0, r0, hx0⟩ := hE.some_
 have hR := h.lt
 obtain ⟨X, hX⟩ : ∃ X, X = elmL d (T.ts.drop k) := ⟨_, rfl⟩
 rw [← hX]
 rw [hx0] at hX
 by_cases c0 : x0.k = 5
 rotate_left
 ·have hta := take1_no w R T k v1 v2 v3 v4 (.map (some M)) x0 r0 _ rfl 5 h hx0 c0
  rw [hX, elmL_no c0]
  clear h hN hE hd hX c0 hx0
  go_enter Tryz.func78, Tryz.ntmps78
  go_wp2_with fail
  refine hta.mono ?_
  rintro e w1 ⟨rfl, hm1⟩
  exact ⟨rfl, rfl, (Fr.of_moved hm1).mono fun _ _ e => .inl e⟩
 have hta := take1_yes w R T k v1 v2 v3 v4 (.map (some M)) x0 r0 _ rfl 5 h hx0 c0
 have HD0 := Lib.hid hx0
 have HE0 := Lib.hid (hx0 ▸ hE)
 have HX := Lib.hid hX
 have HN := Lib.hid hN
 have HCU := Lib.hid h
 have HDE := Lib.hid hd
 have C0 := Lib.hid c0
 clear h hN hE hd hX c0 hx0
 go_enter Tryz.func78, Tryz.ntmps78
 go_wp2_with fail
 refine hta.mono ?_
 rintro e w1 ⟨rfl, hc1, hm1⟩
 obtain ⟨W1, hW1⟩ : ∃ W1, W1 = w1.alloc (.cells #[.int .u8 x0.k, .string (str x0.t), .int .i64 x0.n, .int .i64 x0.at_] 92) := ⟨_, rfl⟩
 have HT1 : Hid (LTk W1 w1.heap.size x0) := Lib.hid (by rw [hW1]; exact LTk.new w1 x0)
 have HC1 : Hid (CU W1 R T (k + 1) v1 v2 v3 v4 (.map (some M))) := Lib.hid (by rw [hW1]; exact hc1.alloc _)
 have HF1 : Hid (Fr w W1 (· = R)) := Lib.hid (by rw [hW1]; exact (Fr.of_moved hm1).alloc _)
 have HD1 := Lib.hid (HDE.out.frR HCU.out HF1.out)
 have hb1R : w1.heap.size ≠ R := by have := hc1.lt; omega
 have hs1 := HF1.out.size
 clear hc1 hm1 hta
 unfold tkV
 go_wp2_with fail
 rw [← hW1]
 clear hW1
 have q1 := HC1.out.drew.more.2.2.2.2
 obtain ⟨t0, t1, t2, t3⟩ := HT1.out.drew.cells
 cases hl : lookD d x0.t with
 | some c =>
  obtain ⟨v, -, hlk⟩ := HD1.out.drew.yes hl
  have HX2 := Lib.hid (HX.out.trans (elmL_twice C0.out hl))
  have hrf := fun W => refuse_any 32 x0 W
  unfold tkV at hrf
  clear hl
  go_region_held3 (fun w' => w'.cell? ⟨R, 6, none⟩ = some (.map (some M)) ∧ w'.cell? ⟨w1.heap.size, 1, none⟩ = some (.string (str x0.t))) (go_keep) (fail)
  go_wp2_with fail
  refine (hrf _).mono ?_
  rintro e w2 ⟨rfl, hb2⟩
  have eX := HX2.out
  subst eX
  exact ⟨rfl, rfl, (HF1.out.drew.mono fun _ _ e => .inl e).trans (.of_below hb2)⟩
 | none =>
  have hlk := HD1.out.drew.no hl
  have HX2 := Lib.hid (HX.out.trans (elmL_yes C0.out hl))
  have HL := Lib.hid hl
  clear hl
  go_region_held3 (fun w' => w'.cell? ⟨R, 6, none⟩ = some (.map (some M)) ∧ w'.cell? ⟨w1.heap.size, 1, none⟩ = some (.string (str x0.t))) (go_keep) (fail)
  clear hlk q1 t0 t1 t2 t3
  have hE1 := HE0.out.cons (by rw [C0.out]; omega)
  obtain ⟨x1, r1, hx1⟩ := hE1.some_
  have hd1 : T.ts.drop (k + 1) = x1 :: r1 := (drop_next HD0.out).trans hx1
  have HDr1 := Lib.hid hd1
  have HE1 := Lib.hid (hx1 ▸ hE1)
  rw [hx1] at HX2
  clear hE1 hx1 hd1
  by_cases c1 : x1.k = 1 ∧ x1.t = wFrom
  rotate_left
  ·have hta := takeText_no W1.drew R T (k + 1) v1 v2 v3 v4 (.map (some M)) x1 r1 1 wFrom HC1.out.drew HDr1.out c1
   have HX3 := Lib.hid (HX2.out.trans (elmB_no c1))
   clear c1
   go_wp2_with fail
   refine hta.mono ?_
   rintro e w2 ⟨rfl, hm2⟩
   have eX := HX3.out
   subst eX
   exact ⟨rfl, rfl, (HF1.out.drew.mono fun _ _ e => .inl e).next (Fr.of_moved hm2) (fun j _ e => .inl e)⟩
  have hta := takeText_yes W1.drew R T (k + 1) v1 v2 v3 v4 (.map (some M)) x1 r1 1 wFrom HC1.out.drew HDr1.out c1.1 c1.2
  have HX3 := Lib.hid (HX2.out.trans (elmB_yes c1))
  have hE2 := HE1.out.cons (by omega)
  clear c1
  go_wp2_with fail
  refine hta.mono ?_
  rintro e w2 ⟨rfl, hc2, hm2⟩
  have HC2 := Lib.hid hc2
  have HF2 := Lib.hid (HF1.out.drew.next (Fr.of_moved hm2) (fun j _ e => e))
  have HT2 := Lib.hid (HT1.out.drew.moved hm2 hb1R)
  have HDE2 := Lib.hid (HD1.out.drew.frR HC1.out.drew (Fr.of_moved hm2))
  obtain ⟨x2, r2, hx2⟩ := hE2.some_
  have hd2 : T.ts.drop (k + 1 + 1) = x2 :: r2 := (drop_next HDr1.out).trans hx2
  have HDr2 := Lib.hid hd2
  have hn2 := HN.out.at_ hd2
  rw [hx2] at HX3
  clear hc2 hm2 hta hE2 hx2 hd2
  by_cases c2 : x2.k = 4
  rotate_left
  ·have hta := take1_no w2 R T (k + 1 + 1) v1 v2 v3 v4 (.map (some M)) x2 r2 _ rfl 4 HC2.out HDr2.out c2
   have HX4 := Lib.hid (HX3.out.trans (elmC_no c2))
   clear c2
   go_wp2_with fail
   refine hta.mono ?_
   rintro e w3 ⟨rfl, hm3⟩
   have eX := HX4.out
   subst eX
   exact ⟨rfl, rfl, (HF2.out.mono fun _ _ e => .inl e).next (Fr.of_moved hm3) (fun j _ e => .inl e)⟩
  have hta := take1_yes w2 R T (k + 1 + 1) v1 v2 v3 v4 (.map (some M)) x2 r2 _ rfl 4 HC2.out HDr2.out c2
  have C2 := Lib.hid c2
  clear c2
  go_wp2_with fail
  refine hta.mono ?_
  rintro e w3 ⟨rfl, hc3, hm3⟩
  obtain ⟨W3, hW3⟩ : ∃ W3, W3 = w3.alloc (.cells #[.int .u8 x2.k, .string (str x2.t), .int .i64 x2.n, .int .i64 x2.at_] 92) := ⟨_, rfl⟩
  have HT30 : Hid (LTk W3 w1.heap.size x0) := Lib.hid (by rw [hW3]; exact (HT2.out.moved hm3 hb1R).alloc _)
  have HT32 : Hid (LTk W3 w3.heap.size x2) := Lib.hid (by rw [hW3]; exact LTk.new w3 x2)
  have HC3 : Hid (CU W3 R T (k + 1 + 1 + 1) v1 v2 v3 v4 (.map (some M))) := Lib.hid (by rw [hW3]; exact hc3.alloc _)
  have hf3 : Fr w2 W3 (· = R) := by rw [hW3]; exact (Fr.of_moved hm3).alloc _
  have HF3 := Lib.hid (HF2.out.next hf3 (fun j _ e => e))
  have HDE3 := Lib.hid (HDE2.out.frR HC2.out hf3)
  obtain ⟨-, p1, -, -⟩ := HT32.out.cells
  rw [hW3] at p1
  have hs3 := HF3.out.size
  have hof := of_any (str x2.t) W3 (by show x2.t.toArray.size ≤ _; simp; omega)
  clear hc3 hm3 hta hf3
  unfold tkV
  go_wp2_with fail
  rw [← hW3]
  clear hW3 p1
  refine hof.mono ?_
  rintro e w4 ⟨v, rfl, ho4, hb4⟩
  have HO4 := Lib.hid ho4
  have HB4 := Lib.hid hb4
  have HC4 := Lib.hid (HC3.out.next hb4)
  have HT40 := Lib.hid (HT30.out.moved (.of_below (R := R) hb4) hb1R)
  have HT42 : Hid (LTk w4 w3.heap.size x2) := Lib.hid ((hb4.block w3.heap.size HT32.out.lt).trans HT32.out)
  have HDE4 := Lib.hid (HDE3.out.next hb4)
  have HF4 := Lib.hid (HF3.out.trans (.of_below hb4))
  have hlen : (ofL (str x2.t)).length = (cellsOf x2.t).length := rfl
  rw [hlen] at HO4 ho4
  obtain ⟨A, cap, rfl⟩ : ∃ A cap, v = .slice A (cellsOf x2.t).length cap := by
   rcases Joins.ownsRow_forms ho4 with ⟨rfl, h0⟩ | ⟨g, c, rfl⟩
   ·exact ⟨none, 0, by rw [h0]⟩
   ·exact ⟨_, _, rfl⟩
  obtain ⟨n, hn⟩ : ∃ n, n = (cellsOf x2.t).length := ⟨_, rfl⟩
  have HNL := Lib.hid hn
  obtain ⟨t0, t1, t2, t3⟩ := HT42.out.cells
  have hrf := fun W => refuse_any 3 x2 W
  unfold tkV at hrf
  rw [← hn] at HO4 ho4 ⊢
  clear hof hb4 hlen hn ho4
  by_cases c3 : n < 2
  ·have i3 : (n : Int) < 2 := by omega
   have HX5 := Lib.hid (HX3.out.trans (elmC_long C2.out (.inl (by rw [← HNL.out]; exact c3))))
   go_wp2_with fail
   refine (hrf _).mono ?_
   rintro e w5 ⟨rfl, hb5⟩
   have eX := HX5.out
   subst eX
   exact ⟨rfl, rfl, (HF4.out.mono fun _ _ e => .inl e).trans (.of_below hb5)⟩
  have i3 : ¬ (n : Int) < 2 := by omega
  by_cases c4 : 4 < n
  ·have i4 : (4 : Int) < (n : Int) := by omega
   have HX5 := Lib.hid (HX3.out.trans (elmC_long C2.out (.inr (by rw [← HNL.out]; exact c4))))
   go_wp2_with fail
   refine (hrf _).mono ?_
   rintro e w5 ⟨rfl, hb5⟩
   have eX := HX5.out
   subst eX
   exact ⟨rfl, rfl, (HF4.out.mono fun _ _ e => .inl e).trans (.of_below hb5)⟩
  have i4 : ¬ (4 : Int) < (n : Int) := by omega
  have HX5 := Lib.hid (HX3.out.trans (elmC_yes C2.out (by rw [← HNL.out]; omega)))
  go_wp2_with fail
  have q1 := HC4.out.drew.more.2.2.2.2
  obtain ⟨-, t1', -, -⟩ := HT40.out.drew.cells
  obtain ⟨o, hup, hde⟩ := HDE4.out.drew.put (c := cellsOf x2.t) (v := .slice A n cap) HL.out (by
   have := HO4.out
   rw [HNL.out] at this ⊢
   exact Joins.ownsRow_le this (by omega))
  have HDE5 := Lib.hid hde
  obtain ⟨l, hl⟩ := HDE4.out.drew.map
  obtain ⟨l', hl'⟩ := hde.map
  have hg := putObj_only (w := w4.drew) (M := M) o
  have HC5 := Lib.hid (HC4.out.drew.map hl hl' hg)
  have HT5 := Lib.hid (HT40.out.drew.map hl hg)
  have q2 := HC5.out.more.2.2.2.2
  obtain ⟨-, t2', -, -⟩ := HT5.out.cells
  have HG := Lib.hid hg
  clear hde hl hl' hg t0 t1 t2 t3 hrf c3 c4 i3 i4
  go_region_held3 (fun w' => w'.cell? ⟨R, 6, none⟩ = some (.map (some M)) ∧ w'.cell? ⟨w1.heap.size, 1, none⟩ = some (.string (str x0.t))) (go_keep) (fail)
  have eX := HX5.out
  subst eX
  go_end0
  exact ⟨k + 1 + 1 + 1, rfl, HC5.out, drop_next HDr2.out, HDE5.out, (HF4.out.drew.mono fun _ _ e => .inl e).next (Fr.of_grown HG.out) (fun j _ e => .inr (by injection e with e; exact e.symm))⟩
end
end Go.Proofs.YthaibekbefndlaaGreatDoor.C

namespace Go.Proofs.YthaibekbefndlaaGreatDoor.C
open Go.RowKit

theorem flat_set {sz : Nat} : ∀ {xs : List (List Value)} {j i : Nat} {x : List Value} (u : Value), (∀ x ∈ xs, x.length = sz) → xs[j]? = some x → i < sz → xs.flatten.set (j * sz + i) u = (xs.set j (x.set i u)).flatten
 | [], j, i, x, u, _, hx, _ => by simp at hx
 | y :: r, 0, i, x, u, h, hx, hi => by
  simp at hx
  subst hx
  have hy := h y (by simp)
  rw [List.flatten_cons, Nat.zero_mul, Nat.zero_add, List.set_append_left _ _ (by omega), List.set_cons_zero, List.flatten_cons]
 | y :: r, j + 1, i, x, u, h, hx, hi => by
  have hy := h y (by simp)
  rw [List.flatten_cons, List.set_append_right _ _ (by rw [hy, Nat.succ_mul]; omega), hy, List.set_cons_succ, List.flatten_cons]
  rw [show (j + 1) * sz + i - sz = j * sz + i by rw [Nat.succ_mul]; omega]
  rw [flat_set u (fun z hz => h z (List.mem_cons_of_mem _ hz)) (by simpa using hx) hi]
def markL (o : List Elm) (i : Nat) (z : Int) : List Elm := match o[i]? with
 | some e => o.set i { e with same := z }
 | none => o
theorem markL_len (o : List Elm) (i : Nat) (z : Int) : (markL o i z).length = o.length := by unfold markL; split <;> simp
theorem zip_set {o : List Elm} {vs : List Value} {i : Nat} {e : Elm} {v : Value} (hv : vs[i]? = some v) : (o.set i e).zip vs = (o.zip vs).set i (e, v) := by
 apply List.ext_getElem?
 intro j
 rw [List.getElem?_set]
 by_cases hj : i = j
 ·subst hj
  have hi : i < vs.length := (List.getElem?_eq_some_iff.1 hv).1
  by_cases ho : i < o.length
  ·rw [if_pos rfl, if_pos (by simp; omega), List.getElem?_zip_eq_some]
   exact ⟨by simp [ho], hv⟩
  ·rw [if_pos rfl, if_neg (by simp; omega)]
   rw [List.getElem?_eq_none (by simp; omega)]
 ·rw [if_neg hj]
  simp only [List.zip, List.getElem?_zipWith, List.getElem?_set_ne hj]
theorem ordR_mark {o : List Elm} {vs : List Value} (h : vs.length = o.length) {i : Nat} {e : Elm} (he : o[i]? = some e) (z : Int) : (ordR o vs).flatten.set (i * 3 + 2) (.int .i64 z) = (ordR (markL o i z) vs).flatten := by
 have hi : i < o.length := (List.getElem?_eq_some_iff.1 he).1
 have hv : vs[i]? = some (vs[i]'(by omega)) := by simp
 have hx : (ordR o vs)[i]? = some [.string (str e.name), vs[i]'(by omega), .int .i64 e.same] := by
  unfold ordR
  have hz : (o.zip vs)[i]? = some (e, vs[i]'(by omega)) := List.getElem?_zip_eq_some.2 ⟨he, hv⟩
  rw [List.getElem?_map, hz]
  rfl
 rw [flat_set (.int .i64 z) ordR_each hx (by omega)]
 congr 1
 unfold markL
 rw [he]
 unfold ordR
 rw [zip_set hv, List.map_set]
 rfl
theorem ownsRow_mark {w : World} {base sz n c g j : Nat} {e : TypeId} {xs : List Value} (h : w.ownsRow base e sz (.slice (some ⟨g, 0, none⟩) n c) n xs) (u : Value) : (w.setCell ⟨g, j, none⟩ u).ownsRow base e sz (.slice (some ⟨g, 0, none⟩) n c) n (xs.set j u) := by
 obtain ⟨h1, h2⟩ := h
 rcases h2 with ⟨h0, _⟩ | ⟨g', cap, cur, hv, hg, hh, hc, hm, hs, ht⟩
 ·cases h0
 ·injection hv with hv _ hv2
  injection hv with hv
  injection hv with hv
  subst hv hv2
  refine ⟨by simpa using h1, .inr ⟨g, c, (cur.toList.set j u).toArray, rfl, hg, ?_, hc, hm, by simpa using hs, ?_⟩⟩
  ·have := set_row (w := w) (R := g) (i := j) (l := cur.toList) (t := e) (by simpa using hh) u
   simpa using this
  ·rw [List.toList_toArray, List.take_set, ht]
theorem OrdAt.mark {w : World} {lo g c j : Nat} {o : List Elm} {e : Elm} (h : OrdAt w lo (.slice (some ⟨g, 0, none⟩) o.length c) o) (he : o[j]? = some e) (z : Int) : OrdAt (w.setCell ⟨g, j * 3 + 2, none⟩ (.int .i64 z)) lo (.slice (some ⟨g, 0, none⟩) o.length c) (markL o j z) := by
 obtain ⟨vs, h1, h2, h3⟩ := h
 have hj : j < o.length := (List.getElem?_eq_some_iff.1 he).1
 refine ⟨vs, by rw [markL_len]; exact h1, ?_, ?_⟩
 ·rw [markL_len, ← ordR_mark h1 he]
  exact ownsRow_mark h2 _
 ·intro i d y hd hy
  have hd' : ∃ d', o[i]? = some d' ∧ d'.cells = d.cells := by
   unfold markL at hd
   rw [he] at hd
   simp only at hd
   rw [List.getElem?_set] at hd
   split at hd
   ·rename_i hij
    subst hij
    injection hd with hd
    exact ⟨e, he, by rw [← hd]⟩
   ·exact ⟨d, hd, rfl⟩
  obtain ⟨d', hd1, hd2⟩ := hd'
  rw [← hd2]
  have hr := h3 i d' y hd1 hy
  refine ownsRow_fr hr (X := (· = g)) ((Fr.of_below (Below.refl _ w)).set _ _ (fun _ => rfl)) ?_
  intro g' hg' e1
  obtain ⟨c1, hc1⟩ := ownsRow_ty hr hg'
  obtain ⟨c2, hc2⟩ := ownsRow_ty h2 (g := g) rfl
  rw [e1, hc2] at hc1
  injection hc1 with hc1
  injection hc1 with _ hc1
  cases hc1
def likeL (d : List (List UInt8 × List Int)) (o : List Elm) (own : Nat) (ts : List Tok) : Re (List Elm) := match takeK [3, 5] ts with
 | .error e => .error e
 | .ok (b, r) => match itemL d b with
  | .error e => .error e
  | .ok c => match placeL o c with
   | none => .error (31, b.at_)
   | some j => if j = own then .error (31, b.at_) else .ok (markL o own (((o[j]?).map Elm.same).getD 0), r)
def OdTold (w : World) (lo R : Nat) (T : TV) (v1 v2 v3 v4 v5 : Value) : Re (List Elm) → Ending → World → Prop
 | .ok (o, r), e, w' => ∃ k u4, e = .returned (.tuple #[]) ∧ CU w' R T k v1 v2 v3 u4 v5 ∧ T.ts.drop k = r ∧ OrdAt w' lo u4 o ∧ (∀ g, u4.ownBlock = some g → v4.ownBlock = some g ∨ w.heap.size ≤ g) ∧ Fr w w' (fun j => j = R ∨ v4.ownBlock = some j)
 | .error er, e, w' => e = .panicked (faultV er.1 er.2) ∧ Fr w w' (fun j => j = R ∨ v4.ownBlock = some j)
set_option maxRecDepth 100000 in
set_option maxHeartbeats 8000000 in
theorem like_any (w : World) (lo R : Nat) (T : TV) (k : Nat) (v1 v2 v3 v4 : Value) (M : Nat) (d : List (List UInt8 × List Int)) (o : List Elm) (own : Nat) (h : CU w R T k v1 v2 v3 v4 (.map (some M))) (hd : DeAt w lo M d) (ho : OrdAt w lo v4 o) (hN : NumOk T) (hE : Ended (T.ts.drop k)) (hown : own < o.length) (hn : o.length ≤ 2000) (hlo : R < lo) (hlw : lo ≤ w.heap.size) :
  Calls Tryz.prog 136 #[.pointer (some ⟨R, 0, none⟩), .int .i64 own] w (OdTold w lo R T v1 v2 v3 v4 (.map (some M)) (likeL d o own (T.ts.drop k))) := by
 obtain ⟨x0, r0, hx0⟩ := hE.some_
 have hR := h.lt
 obtain ⟨X, hX⟩ : ∃ X, X = likeL d o own (T.ts.drop k) := ⟨_, rfl⟩
 rw [← hX]
 rw [hx0] at hX
 unfold likeL at hX
 by_cases c0 : x0.k = 3 ∨ x0.k = 5
 rotate_left
 ·have hta := take2_no w R T k v1 v2 v3 v4 (.map (some M)) x0 r0 _ rfl 3 5 h hx0 c0
  rw [takeK, if_neg (by simpa using c0)] at hX
  simp only at hX
  subst hX
  clear h hN hE hd ho c0 hx0
  go_enter Tryz.func136, Tryz.ntmps136
  go_wp2_with fail
  refine hta.mono ?_
  rintro e w1 ⟨rfl, hm1⟩
  exact ⟨rfl, rfl, (Fr.of_moved hm1).mono fun _ _ e => .inl e⟩
 have hta := take2_yes w R T k v1 v2 v3 v4 (.map (some M)) x0 r0 _ rfl 3 5 h hx0 c0
 rw [takeK, if_pos (by simpa using c0)] at hX
 simp only at hX
 have hnx := hN.at_ hx0
 obtain ⟨A, cap, rfl⟩ := ho.form
 have HX := Lib.hid hX
 have HDr := Lib.hid (drop_next hx0)
 have HCU := Lib.hid h
 have HDE := Lib.hid hd
 have HO := Lib.hid ho
 clear h hN hE hd ho c0 hx0 hX
 go_enter Tryz.func136, Tryz.ntmps136
 go_wp2_with fail
 refine hta.mono ?_
 rintro e w1 ⟨rfl, hc1, hm1⟩
 obtain ⟨W1, hW1⟩ : ∃ W1, W1 = w1.alloc (.cells #[.int .u8 x0.k, .string (str x0.t), .int .i64 x0.n, .int .i64 x0.at_] 92) := ⟨_, rfl⟩
 have HT1 : Hid (LTk W1 w1.heap.size x0) := Lib.hid (by rw [hW1]; exact LTk.new w1 x0)
 have HC1 : Hid (CU W1 R T (k + 1) v1 v2 v3 (.slice A o.length cap) (.map (some M))) := Lib.hid (by rw [hW1]; exact hc1.alloc _)
 have HF1 : Hid (Fr w W1 (· = R)) := Lib.hid (by rw [hW1]; exact (Fr.of_moved hm1).alloc _)
 have HD1 := Lib.hid (HDE.out.frR HCU.out HF1.out)
 have HO1 := Lib.hid (HO.out.frR HCU.out HF1.out)
 have hs1 := HF1.out.size
 have hco := cellsOf_any W1 lo R T (k + 1) v1 v2 v3 (.slice A o.length cap) M d x0 HC1.out HD1.out hnx (by omega)
 unfold tkV at hco
 clear hc1 hm1 hta
 obtain ⟨t0, t1, t2, t3⟩ := HT1.out.cells
 rw [hW1] at t0 t1 t2 t3
 unfold tkV
 go_wp2_with fail
 rw [← hW1]
 clear hW1 t0 t1 t2 t3
 have HX1 := HX
 cases hi : itemL d x0 with
 | error er =>
  rw [hi] at hco
  have HX2 : Hid (X = .error er) := Lib.hid (by have := HX.out; rw [hi] at this; exact this)
  refine hco.mono ?_
  rintro e w2 ⟨rfl, hb2⟩
  have eX := HX2.out
  subst eX
  exact ⟨rfl, rfl, (HF1.out.mono fun _ _ e => .inl e).trans (.of_below hb2)⟩
 | ok c =>
  rw [hi] at hco
  have HX2 : Hid (X = match placeL o c with
   | none => .error (31, x0.at_)
   | some j => if j = own then .error (31, x0.at_) else .ok (markL o own (((o[j]?).map Elm.same).getD 0), r0)) := Lib.hid (by have := HX.out; rw [hi] at this; exact this)
  clear hi
  refine hco.mono ?_
  rintro e w2 ⟨⟨v, rfl, hv2⟩, hb2⟩
  have HC2 := Lib.hid (HC1.out.next hb2)
  have HO2 := Lib.hid (HO1.out.next hb2)
  have HF2 := Lib.hid (HF1.out.trans (.of_below hb2))
  have HT2 : Hid (LTk w2 w1.heap.size x0) := Lib.hid ((hb2.block _ HT1.out.lt).trans HT1.out)
  have hpl := placeOf_any w2 lo R T (k + 1) v1 v2 v3 (.slice A o.length cap) (.map (some M)) v o c HC2.out HO2.out hv2 hn
  clear hv2 hb2 hco
  go_wp2_with fail
  refine hpl.mono ?_
  rintro e w3 ⟨rfl, hb3⟩
  have HC3 := Lib.hid (HC2.out.next hb3)
  have HO3 := Lib.hid (HO2.out.next hb3)
  have HF3 := Lib.hid (HF2.out.trans (.of_below hb3))
  have HT3 : Hid (LTk w3 w1.heap.size x0) := Lib.hid ((hb3.block _ HT2.out.lt).trans HT2.out)
  clear hb3 hpl
  have hrf := fun W => refuse_any 31 x0 W
  unfold tkV at hrf
  obtain ⟨t0, t1, t2, t3⟩ := HT3.out.cells
  cases hp : placeL o c with
  | none =>
   have hpv : placeV o c = -1 := by unfold placeV; rw [hp]
   have HX3 : Hid (X = .error (31, x0.at_)) := Lib.hid (by have := HX2.out; rw [hp] at this; exact this)
   rw [hpv]
   clear hp
   go_wp2_with fail
   refine (hrf _).mono ?_
   rintro e w4 ⟨rfl, hb4⟩
   have eX := HX3.out
   subst eX
   exact ⟨rfl, rfl, (HF3.out.mono fun _ _ e => .inl e).trans (.of_below hb4)⟩
  | some j =>
   have hpv : placeV o c = j := by unfold placeV; rw [hp]
   have hjl : j < o.length := by
    unfold placeL at hp
    rw [List.findIdx?_eq_some_iff_getElem] at hp
    exact hp.1
   rw [hpv]
   have j0 : ¬ (j : Int) < 0 := by omega
   by_cases hjo : j = own
   ·have HX3 : Hid (X = .error (31, x0.at_)) := Lib.hid (by have := HX2.out; rw [hp] at this; simp only at this; rw [if_pos hjo] at this; exact this)
    have jo : (j : Int) = (own : Int) := by omega
    clear hp hjo
    go_wp2_with fail
    refine (hrf _).mono ?_
    rintro e w4 ⟨rfl, hb4⟩
    have eX := HX3.out
    subst eX
    exact ⟨rfl, rfl, (HF3.out.mono fun _ _ e => .inl e).trans (.of_below hb4)⟩
   have jo : ¬ (j : Int) = (own : Int) := by omega
   have jb : (decide ((j : Int) < 0) || ((j : Int) == (own : Int))) = false := by simp [jo, j0]
   obtain ⟨ej, hej⟩ : ∃ ej, o[j]? = some ej := ⟨_, List.getElem?_eq_getElem hjl⟩
   obtain ⟨eo, heo⟩ : ∃ eo, o[own]? = some eo := ⟨_, List.getElem?_eq_getElem hown⟩
   have HX3 : Hid (X = .ok (markL o own ej.same, r0)) := Lib.hid (by have := HX2.out; rw [hp] at this; simp only at this; rw [if_neg hjo, hej] at this; exact this)
   obtain ⟨vs, h1, h2, h3⟩ := HO3.out
   obtain ⟨g, cap', hgc⟩ := Joins.ownsRow_form h2 (by omega)
   injection hgc with hA hA1 hA2
   subst hA hA2
   obtain ⟨ad, had⟩ : ∃ ad : Addr, ad = ⟨g, 0, none⟩ := ⟨_, rfl⟩
   have HAD := Lib.hid had
   have hsi : SI 3 w3 w3.heap.size (some ad) o.length (ordR o vs) := by rw [had]; exact SI.of_own h2 (ordR_len h1) ordR_each
   have hcj : w3.cell? ⟨(ad.add (j * 3)).block, (ad.add (j * 3)).off + 2, none⟩ = some (.int .i64 ej.same) := by
    obtain ⟨ad', a, b, z, hA, _, hx, _, _, c2⟩ := hsi.at3 hjl
    injection hA with hA
    subst hA
    obtain ⟨e', v', he', _, hxe⟩ := ordR_at hx
    rw [hej] at he'
    injection he' with he'
    subst he'
    simp at hxe
    rw [hxe.2.2] at c2
    exact c2
   have hcw : w3.cell? ⟨(ad.add (own * 3)).block, (ad.add (own * 3)).off + 2, none⟩ = some (.int .i64 eo.same) := by
    obtain ⟨ad', a, b, z, hA, _, hx, _, _, c2⟩ := hsi.at3 hown
    injection hA with hA
    subst hA
    obtain ⟨e', v', he', _, hxe⟩ := ordR_at hx
    rw [heo] at he'
    injection he' with he'
    subst he'
    simp at hxe
    rw [hxe.2.2] at c2
    exact c2
   have hRg : R < g := by have := (h2.lt g rfl).1; omega
   have hfz : w3.frozen? ⟨(ad.add (own * 3)).block, (ad.add (own * 3)).off + 2, none⟩ = false := by
    obtain ⟨cc, hcc⟩ := ownsRow_ty h2 (g := g) rfl
    rw [had, add_plain]
    simp [World.frozen?, hcc]
   have q5 := HC3.out.more.2.2.2.1
   have i0 : (0 : Int) ≤ (j : Int) := by omega
   have i1 : (j : Int) < (o.length : Int) := by omega
   have i2 : (0 : Int) ≤ (own : Int) := by omega
   have i3 : (own : Int) < (o.length : Int) := by omega
   have HEO := Lib.hid heo
   rw [← had] at q5
   clear hp hjo h1 h2 h3 hsi had hrf t0 t1 t2 t3 hej heo hpv
   go_wp2_with fail
   refine wp_region_E (S := fun W : World => W.cell? ⟨R, 5, none⟩ = some (.slice (some ad) o.length cap) ∧ W.cell? ⟨(ad.add (j * 3)).block, (ad.add (j * 3)).off + 2, none⟩ = some (.int .i64 ej.same)) (L := 17) (by kernel_rfl) ?_
   have hS4 : (fun W : World => W.cell? ⟨R, 5, none⟩ = some (.slice (some ad) o.length cap) ∧ W.cell? ⟨(ad.add (j * 3)).block, (ad.add (j * 3)).off + 2, none⟩ = some (.int .i64 ej.same)) w3.drew := ⟨q5, hcj⟩
   refine wpAnyE_take (i := 0) (oi := ?oi0) (v := ?v0) ?hi0 (by kernel_rfl) (by kernel_rfl) (by kernel_rfl) (by kernel_rfl) ?hq0 (Or.inl ⟨?hw0, ?hy0⟩) (by assumption) ?rest0
   case hi0 => exact rfl
   case hq0 => exact fun _ _ _ h => h
   case hw0 => rfl
   case hy0 => (intro x hx; (try dsimp only at hx); simp only [List.getElem_toArray, List.getElem_cons_zero]; go_split_ands; go_simp; try with_reducible rfl)
   try simp only [Act.put, List.setIfInBounds_toArray, List.set_cons_zero, List.set_cons_succ, List.getElem_toArray, List.getElem_cons_zero]
   refine wpAnyE_take (i := 1) (oi := ?oi1) (v := ?v1) ?hi1 (by kernel_rfl) (by kernel_rfl) (by kernel_rfl) (by kernel_rfl) ?hq1 (Or.inl ⟨?hw1, ?hy1⟩) (by assumption) ?rest1
   case hi1 => exact rfl
   case hq1 => exact fun _ _ _ h => h
   case hw1 => rfl
   case hy1 => (intro x hx; (try dsimp only at hx); simp only [List.getElem_toArray, List.getElem_cons_succ, List.getElem_cons_zero]; go_split_ands; go_simp; try with_reducible rfl)
   try simp only [Act.put, List.setIfInBounds_toArray, List.set_cons_zero, List.set_cons_succ, List.getElem_toArray, List.getElem_cons_succ, List.getElem_cons_zero]
   refine wpAnyE_take (i := 2) (oi := ?oi2) (v := ?v2) ?hi2 (by kernel_rfl) (by kernel_rfl) (by kernel_rfl) (by kernel_rfl) ?hq2 (Or.inl ⟨?hw2, ?hy2⟩) (by assumption) ?rest2
   case hi2 => exact rfl
   case hq2 => exact fun _ _ _ h => h
   case hw2 => rfl
   case hy2 => (intro x hx; (try dsimp only at hx); simp only [List.getElem_toArray, List.getElem_cons_succ, List.getElem_cons_zero]; go_split_ands; go_simp; try with_reducible rfl)
   try simp only [Act.put, List.setIfInBounds_toArray, List.set_cons_zero, List.set_cons_succ, List.getElem_toArray, List.getElem_cons_succ, List.getElem_cons_zero]
   refine wpAnyE_take (i := 3) (oi := ?oi3) (v := ?v3) ?hi3 (by kernel_rfl) (by kernel_rfl) (by kernel_rfl) (by kernel_rfl) ?hq3 (Or.inl ⟨?hw3, ?hy3⟩) (by assumption) ?rest3
   case hi3 => exact rfl
   case hq3 => exact fun _ _ _ h => h
   case hw3 => rfl
   case hy3 => (intro x hx; (try dsimp only at hx); simp only [List.getElem_toArray, List.getElem_cons_succ, List.getElem_cons_zero]; go_split_ands; go_simp; try with_reducible rfl)
   try simp only [Act.put, List.setIfInBounds_toArray, List.set_cons_zero, List.set_cons_succ, List.getElem_toArray, List.getElem_cons_succ, List.getElem_cons_zero]
   refine wpAnyE_take (i := 4) (oi := ?oi4) (v := ?v4) ?hi4 (by kernel_rfl) (by kernel_rfl) (by kernel_rfl) (by kernel_rfl) ?hq4 (Or.inl ⟨?hw4, ?hy4⟩) (by assumption) ?rest4
   case hi4 => exact rfl
   case hq4 => exact fun _ _ _ h => h
   case hw4 => rfl
   case hy4 => (intro x hx; (try dsimp only at hx); simp only [List.getElem_toArray, List.getElem_cons_succ, List.getElem_cons_zero]; go_split_ands; go_simp; try with_reducible rfl)
   try simp only [Act.put, List.setIfInBounds_toArray, List.set_cons_zero, List.set_cons_succ, List.getElem_toArray, List.getElem_cons_succ, List.getElem_cons_zero]
   refine wpAnyE_take (i := 5) (oi := ?oi5) (v := ?v5) ?hi5 (by kernel_rfl) (by kernel_rfl) (by kernel_rfl) (by kernel_rfl) ?hq5 (Or.inl ⟨?hw5, ?hy5⟩) (by assumption) ?rest5
   case hi5 => exact rfl
   case hq5 => exact fun _ _ _ h => h
   case hw5 => rfl
   case hy5 => (intro x hx; (try dsimp only at hx); simp only [List.getElem_toArray, List.getElem_cons_succ, List.getElem_cons_zero]; go_split_ands; go_simp; try with_reducible rfl)
   try simp only [Act.put, List.setIfInBounds_toArray, List.set_cons_zero, List.set_cons_succ, List.getElem_toArray, List.getElem_cons_succ, List.getElem_cons_zero]
   refine wpAnyE_take (i := 6) (oi := ?oi6) (v := ?v6) ?hi6 (by kernel_rfl) (by kernel_rfl) (by kernel_rfl) (by kernel_rfl) ?hq6 (Or.inl ⟨?hw6, ?hy6⟩) (by assumption) ?rest6
   case hi6 => exact rfl
   case hq6 => exact fun _ _ _ h => h
   case hw6 => rfl
   case hy6 => (intro x hx; (try dsimp only at hx); simp only [List.getElem_toArray, List.getElem_cons_succ, List.getElem_cons_zero]; go_split_ands; go_simp; try with_reducible rfl)
   try simp only [Act.put, List.setIfInBounds_toArray, List.set_cons_zero, List.set_cons_succ, List.getElem_toArray, List.getElem_cons_succ, List.getElem_cons_zero]
   refine wpAnyE_take (i := 7) (oi := ?oi7) (v := ?v7) ?hi7 (by kernel_rfl) (by kernel_rfl) (by kernel_rfl) (by kernel_rfl) ?hq7 (Or.inl ⟨?hw7, ?hy7⟩) (by assumption) ?rest7
   case hi7 => exact rfl
   case hq7 => exact fun _ _ _ h => h
   case hw7 => rfl
   case hy7 => (intro x hx; (try dsimp only at hx); simp only [List.getElem_toArray, List.getElem_cons_succ, List.getElem_cons_zero]; go_split_ands; go_simp; try with_reducible rfl)
   try simp only [Act.put, List.setIfInBounds_toArray, List.set_cons_zero, List.set_cons_succ, List.getElem_toArray, List.getElem_cons_succ, List.getElem_cons_zero]
   refine wpAnyE_take (i := 8) (oi := ?oi8) (v := ?v8) ?hi8 (by kernel_rfl) (by kernel_rfl) (by kernel_rfl) (by kernel_rfl) ?hq8 (Or.inl ⟨?hw8, ?hy8⟩) (by assumption) ?rest8
   case hi8 => exact rfl
   case hq8 => exact fun _ _ _ h => h
   case hw8 => rfl
   case hy8 => (intro x hx; (try dsimp only at hx); simp only [List.getElem_toArray, List.getElem_cons_succ, List.getElem_cons_zero]; go_split_ands; go_simp; try with_reducible rfl)
   try simp only [Act.put, List.setIfInBounds_toArray, List.set_cons_zero, List.set_cons_succ, List.getElem_toArray, List.getElem_cons_succ, List.getElem_cons_zero]
   refine wpAnyE_take (i := 9) (oi := ?oi9) (v := ?v9) ?hi9 (by kernel_rfl) (by kernel_rfl) (by kernel_rfl) (by kernel_rfl) ?hq9 (Or.inl ⟨?hw9, ?hy9⟩) (by assumption) ?rest9
   case hi9 => exact rfl
   case hq9 => exact fun _ _ _ h => h
   case hw9 => rfl
   case hy9 => (intro x hx; (try dsimp only at hx); simp only [List.getElem_toArray, List.getElem_cons_succ, List.getElem_cons_zero]; go_split_ands; go_simp; try with_reducible rfl)
   try simp only [Act.put, List.setIfInBounds_toArray, List.set_cons_zero, List.set_cons_succ, List.getElem_toArray, List.getElem_cons_succ, List.getElem_cons_zero]
   refine wpAnyE_take (i := 10) (oi := ?oi10) (v := ?v10) ?hi10 (by kernel_rfl) (by kernel_rfl) (by kernel_rfl) (by kernel_rfl) ?hq10 (Or.inl ⟨?hw10, ?hy10⟩) (by assumption) ?rest10
   case hi10 => exact rfl
   case hq10 => exact fun _ _ _ h => h
   case hw10 => rfl
   case hy10 => (intro x hx; (try dsimp only at hx); simp only [List.getElem_toArray, List.getElem_cons_succ, List.getElem_cons_zero]; go_split_ands; go_simp; try with_reducible rfl)
   try simp only [Act.put, List.setIfInBounds_toArray, List.set_cons_zero, List.set_cons_succ, List.getElem_toArray, List.getElem_cons_succ, List.getElem_cons_zero]
   refine wpAnyE_take (i := 11) (oi := ?oi11) (v := ?v11) ?hi11 (by kernel_rfl) (by kernel_rfl) (by kernel_rfl) (by kernel_rfl) ?hq11 (Or.inl ⟨?hw11, ?hy11⟩) (by assumption) ?rest11
   case hi11 => exact rfl
   case hq11 => exact fun _ _ _ h => h
   case hw11 => rfl
   case hy11 => (intro x hx; (try dsimp only at hx); simp only [List.getElem_toArray, List.getElem_cons_succ, List.getElem_cons_zero]; go_split_ands; go_simp; try with_reducible rfl)
   try simp only [Act.put, List.setIfInBounds_toArray, List.set_cons_zero, List.set_cons_succ, List.getElem_toArray, List.getElem_cons_succ, List.getElem_cons_zero]
   refine wpAnyE_take (i := 12) (oi := ?oi12) (v := ?v12) ?hi12 (by kernel_rfl) (by kernel_rfl) (by kernel_rfl) (by kernel_rfl) ?hq12 (Or.inl ⟨?hw12, ?hy12⟩) (by assumption) ?rest12
   case hi12 => exact rfl
   case hq12 => exact fun _ _ _ h => h
   case hw12 => rfl
   case hy12 => (intro x hx; (try dsimp only at hx); simp only [List.getElem_toArray, List.getElem_cons_succ, List.getElem_cons_zero]; go_split_ands; go_simp; try with_reducible rfl)
   try simp only [Act.put, List.setIfInBounds_toArray, List.set_cons_zero, List.set_cons_succ, List.getElem_toArray, List.getElem_cons_succ, List.getElem_cons_zero]
   refine wpAnyE_take (i := 13) (oi := ?oi13) (v := ?v13) ?hi13 (by kernel_rfl) (by kernel_rfl) (by kernel_rfl) (by kernel_rfl) ?hq13 (Or.inl ⟨?hw13, ?hy13⟩) (by assumption) ?rest13
   case hi13 => exact rfl
   case hq13 => exact fun _ _ _ h => h
   case hw13 => rfl
   case hy13 => (intro x hx; (try dsimp only at hx); simp only [List.getElem_toArray, List.getElem_cons_succ, List.getElem_cons_zero]; go_split_ands; go_simp; try with_reducible rfl)
   try simp only [Act.put, List.setIfInBounds_toArray, List.set_cons_zero, List.set_cons_succ, List.getElem_toArray, List.getElem_cons_succ, List.getElem_cons_zero]
   refine wpAnyE_take (i := 14) (oi := ?oi14) (v := ?v14) ?hi14 (by kernel_rfl) (by kernel_rfl) (by kernel_rfl) (by kernel_rfl) ?hq14 (Or.inl ⟨?hw14, ?hy14⟩) (by assumption) ?rest14
   case hi14 => exact rfl
   case hq14 => exact fun _ _ _ h => h
   case hw14 => rfl
   case hy14 => (intro x hx; (try dsimp only at hx); simp only [List.getElem_toArray, List.getElem_cons_succ, List.getElem_cons_zero]; go_split_ands; go_simp; try with_reducible rfl)
   try simp only [Act.put, List.setIfInBounds_toArray, List.set_cons_zero, List.set_cons_succ, List.getElem_toArray, List.getElem_cons_succ, List.getElem_cons_zero]
   refine wpAnyE_one (i := 15) (by kernel_rfl) rfl (fun K hK => ?_)
   simp only [List.getElem_toArray, List.getElem_cons_succ, List.getElem_cons_zero]
   go_simp
   refine hK.out _ _ (fun _ => hS4) (fun hS => ?_)
   replace hS := hS (by decide)
   refine wpAnyE_take (i := 16) (oi := ?oi16) (v := ?v16) ?hi16 (by kernel_rfl) (by kernel_rfl) (by kernel_rfl) (by kernel_rfl) ?hq16 (Or.inl ⟨?hw16, ?hy16⟩) (by assumption) ?rest16
   case hi16 => exact rfl
   case hq16 => exact fun _ _ _ h => h
   case hw16 => rfl
   case hy16 => (intro x hx; (try dsimp only at hx); simp only [List.getElem_toArray, List.getElem_cons_succ, List.getElem_cons_zero]; go_split_ands; go_simp; try with_reducible rfl)
   try simp only [Act.put, List.setIfInBounds_toArray, List.set_cons_zero, List.set_cons_succ, List.getElem_toArray, List.getElem_cons_succ, List.getElem_cons_zero]
   refine wpAnyE_one (i := 17) (by kernel_rfl) rfl (fun K hK => ?_)
   simp only [List.getElem_toArray, List.getElem_cons_succ, List.getElem_cons_zero]
   go_simp
   refine hK.out _ _ (fun h => absurd rfl h) (fun _ => ?_)
   refine wpAnyE_done (by kernel_rfl) ?_ _
   have hadd : (⟨(ad.add (own * 3)).block, (ad.add (own * 3)).off + 2, none⟩ : Addr) = ⟨g, own * 3 + 2, none⟩ := by
    rw [HAD.out, add_plain]
    simp
   have eX := HX3.out
   subst eX
   go_end0
   rw [hadd]
   exact ⟨k + 1, _, rfl, (HC3.out.far (p := ⟨g, own * 3 + 2, none⟩) hRg _).drew, HDr.out, (HO3.out.mark HEO.out ej.same).drew, fun _ e => .inl e, ((HF3.out.mono fun _ _ e => .inl e).set ⟨g, own * 3 + 2, none⟩ _ (fun _ => .inr rfl)).drew⟩
end Go.Proofs.YthaibekbefndlaaGreatDoor.C

namespace Go.Proofs.YthaibekbefndlaaGreatDoor.C
open Go.RowKit

def addAllL (o : List Elm) (a b : Tok) : Except Er (List Elm) := if amongB o a.n b.n then .error (32, a.at_) else runAll a o a.n (b.n + 1 - a.n)
def ordL (d : List (List UInt8 × List Int)) (o : List Elm) (ts : List Tok) : Re (List Elm) :=
 match takeK [3, 5] ts with
 | .error e => .error e
 | .ok (a, r) => if a.k = 3 ∧ isSign sThru r = true then
   match notBelow a (r.drop 1) with
   | .error e => .error e
   | .ok (b, r') => match addAllL o a b with
    | .error e => .error e
    | .ok o' => .ok (o', r')
  else match itemL d a with
   | .error e => .error e
   | .ok c => if (placeL o c).isSome then .error (32, a.at_) else
    if o.length = 500 then .error (3, a.at_) else
    if isSign sSemi r then likeL d (o ++ [⟨a.t, c, o.length⟩]) o.length (r.drop 1)
    else .ok (o ++ [⟨a.t, c, o.length⟩], r)
theorem placeL_lt {o : List Elm} {c : List Int} {j : Nat} (h : placeL o c = some j) : j < o.length := by
 unfold placeL at h
 rw [List.findIdx?_eq_some_iff_getElem] at h
 exact h.1
theorem placeL_snoc (o : List Elm) (e : Elm) (c : List Int) : placeL (o ++ [e]) c = match placeL o c with
  | some j => some j
  | none => if e.cells = c then some o.length else none := by
 unfold placeL
 rw [List.findIdx?_append]
 cases List.findIdx? (fun e => decide (e.cells = c)) o with
 | some j => rfl
 | none =>
  by_cases h : e.cells = c
  ·simp [h]
  ·simp [h]
theorem markL_snoc (o : List Elm) (t : List UInt8) (c : List Int) (s z : Int) : markL (o ++ [⟨t, c, s⟩]) o.length z = o ++ [⟨t, c, z⟩] := by
 unfold markL
 rw [List.getElem?_append_right (Nat.le_refl _), Nat.sub_self]
 simp
theorem likeL_new (d : List (List UInt8 × List Int)) (o : List Elm) (t : List UInt8) (c : List Int) (ts : List Tok) : likeL d (o ++ [⟨t, c, o.length⟩]) o.length ts = match takeK [3, 5] ts with
  | .error e => .error e
  | .ok (b, r) => match itemL d b with
   | .error e => .error e
   | .ok c' => match placeL o c' with
    | none => .error (31, b.at_)
    | some j => .ok (o ++ [⟨t, c, ((o[j]?).map Elm.same).getD 0⟩], r) := by
 unfold likeL
 rcases takeK [3, 5] ts with e | ⟨b, r⟩
 ·rfl
 ·simp only
  rcases itemL d b with e | c'
  ·rfl
  ·simp only
   rw [placeL_snoc]
   cases hp : placeL o c' with
   | none =>
    simp only
    by_cases hc : c = c'
    ·rw [if_pos hc]
     simp
    ·rw [if_neg hc]
   | some j =>
    simp only
    have hj := placeL_lt hp
    rw [if_neg (by omega), List.getElem?_append_left hj, markL_snoc]
theorem orderL_ord (s : Sta) (ts : List Tok) : orderL s ts = match ordL s.d s.l.ord ts with
  | .error e => .error e
  | .ok (o, r) => .ok ({ s with l := { s.l with ord := o } }, r) := by
 unfold orderL ordL
 rcases takeK [3, 5] ts with e | ⟨a, r⟩
 ·rfl
 ·simp only
  by_cases h : a.k = 3 ∧ isSign sThru r = true
  ·rw [if_pos h, if_pos h]
   rcases notBelow a (r.drop 1) with e | ⟨b, r'⟩
   ·rfl
   ·simp only [addAllL]
    by_cases h2 : amongB s.l.ord a.n b.n = true
    ·rw [if_pos h2, if_pos h2]
    ·rw [if_neg h2, if_neg h2]
     rcases runAll a s.l.ord a.n (b.n + 1 - a.n) with e | o <;> rfl
  ·rw [if_neg h, if_neg h]
   rcases itemL s.d a with e | c
   ·rfl
   ·simp only
    by_cases h2 : (placeL s.l.ord c).isSome = true
    ·rw [if_pos h2, if_pos h2]
    ·rw [if_neg h2, if_neg h2]
     by_cases h3 : s.l.ord.length = 500
     ·rw [if_pos h3, if_pos h3]
     ·rw [if_neg h3, if_neg h3]
      by_cases h4 : isSign sSemi r = true
      ·rw [if_pos h4, if_pos h4, likeL_new]
       rcases takeK [3, 5] (r.drop 1) with e | ⟨b, r'⟩
       ·rfl
       ·simp only
        rcases itemL s.d b with e | c'
        ·rfl
        ·simp only
         cases placeL s.l.ord c' <;> rfl
      ·rw [if_neg h4, if_neg h4]
theorem runAll_len (a : Tok) : ∀ (k : Nat) (o o' : List Elm) (c : Nat), o.length ≤ 500 → runAll a o c k = .ok o' → o'.length ≤ 500
 | 0, o, o', c, ho, h => by
  unfold runAll at h
  simp at h
  rw [← h]
  exact ho
 | k + 1, o, o', c, ho, h => by
  unfold runAll at h
  by_cases hc : rightN c = true
  ·rw [if_pos hc] at h
   by_cases hl : o.length = 500
   ·rw [if_pos hl] at h
    cases h
   ·rw [if_neg hl] at h
    exact runAll_len a k _ _ _ (by simp; omega) h
  ·rw [if_neg hc] at h
   exact runAll_len a k _ _ _ ho h
theorem addAllL_len {a b : Tok} {o o' : List Elm} (ho : o.length ≤ 500) (h : addAllL o a b = .ok o') : o'.length ≤ 500 := by
 unfold addAllL at h
 split at h
 ·cases h
 ·exact runAll_len a _ _ _ _ ho h
theorem clsL_left {cs cs' : List Cls} {ts r : List Tok} (hE : Ended ts) (h : clsL cs ts = .ok (cs', r)) : Left ts r ∧ cs'.length = cs.length + 1 := by
 unfold clsL at h
 cases h1 : takeK [1] ts with
 | error e => rw [h1] at h; cases h
 | ok y =>
  obtain ⟨n, r1⟩ := y
  have k1 := takeK_left hE h1 (by simp)
  rw [h1] at h
  simp only at h
  split at h
  ·cases h
  ·cases h2 : itemsL rangeL (r1.length + 1) [] r1 with
   | error e => rw [h2] at h; cases h
   | ok z =>
    obtain ⟨rs, r2⟩ := z
    rw [h2] at h
    simp at h
    obtain ⟨rfl, rfl⟩ := h
    exact ⟨k1.trans (itemsL_left rangeL (fun s s' ts r hE h => rangeL_left hE h) _ _ _ _ _ k1.1 h2), by simp⟩
theorem elmL_left {d d' : List (List UInt8 × List Int)} {ts r : List Tok} (hE : Ended ts) (h : elmL d ts = .ok (d', r)) : Left ts r := by
 unfold elmL at h
 cases h1 : takeK [5] ts with
 | error e => rw [h1] at h; cases h
 | ok y =>
  obtain ⟨n, r1⟩ := y
  have k1 := takeK_left hE h1 (by simp)
  rw [h1] at h
  simp only at h
  split at h
  ·cases h
  ·unfold elmB at h
   cases h2 : takeT 1 wFrom r1 with
   | error e => rw [h2] at h; cases h
   | ok z =>
    obtain ⟨u, r2⟩ := z
    have k2 := takeT_left k1.1 h2 (by omega)
    rw [h2] at h
    simp only at h
    unfold elmC at h
    cases h3 : takeK [4] r2 with
    | error e => rw [h3] at h; cases h
    | ok q =>
     obtain ⟨q, r3⟩ := q
     have k3 := takeK_left k2.1 h3 (by simp)
     rw [h3] at h
     simp only at h
     split at h
     ·cases h
     ·simp at h
      obtain ⟨_, rfl⟩ := h
      exact (k1.trans k2).trans k3
theorem likeL_left {d : List (List UInt8 × List Int)} {o o' : List Elm} {own : Nat} {ts r : List Tok} (hE : Ended ts) (h : likeL d o own ts = .ok (o', r)) : Left ts r ∧ o'.length = o.length := by
 unfold likeL at h
 cases h1 : takeK [3, 5] ts with
 | error e => rw [h1] at h; cases h
 | ok y =>
  obtain ⟨b, r1⟩ := y
  have k1 := takeK_left hE h1 (by simp)
  rw [h1] at h
  simp only at h
  cases h2 : itemL d b with
  | error e => rw [h2] at h; cases h
  | ok c =>
   rw [h2] at h
   simp only at h
   cases h3 : placeL o c with
   | none => rw [h3] at h; cases h
   | some j =>
    rw [h3] at h
    simp only at h
    split at h
    ·cases h
    ·simp at h
     obtain ⟨rfl, rfl⟩ := h
     exact ⟨k1, markL_len _ _ _⟩
theorem ordL_left {d : List (List UInt8 × List Int)} {o o' : List Elm} {ts r : List Tok} (hE : Ended ts) (ho : o.length ≤ 500) (h : ordL d o ts = .ok (o', r)) : Left ts r ∧ o'.length ≤ 500 := by
 unfold ordL at h
 cases h1 : takeK [3, 5] ts with
 | error e => rw [h1] at h; cases h
 | ok y =>
  obtain ⟨a, r1⟩ := y
  have k1 := takeK_left hE h1 (by simp)
  rw [h1] at h
  simp only at h
  split at h
  ·rename_i hs
   have k2 := sign_left k1.1 hs.2
   cases h2 : notBelow a (r1.drop 1) with
   | error e => rw [h2] at h; cases h
   | ok z =>
    obtain ⟨b, r2⟩ := z
    rw [h2] at h
    simp only at h
    cases h3 : addAllL o a b with
    | error e => rw [h3] at h; cases h
    | ok o2 =>
     rw [h3] at h
     simp at h
     obtain ⟨rfl, rfl⟩ := h
     exact ⟨(k1.trans k2).trans (notBelow_left k2.1 h2), addAllL_len ho h3⟩
  ·cases h2 : itemL d a with
   | error e => rw [h2] at h; cases h
   | ok c =>
    rw [h2] at h
    simp only at h
    split at h
    ·cases h
    ·split at h
     ·cases h
     ·split at h
      ·rename_i hs
       have k2 := sign_left k1.1 hs
       have h3 := likeL_left k2.1 h
       refine ⟨(k1.trans k2).trans h3.1, ?_⟩
       rw [h3.2]
       simp
       omega
      ·simp at h
       obtain ⟨rfl, rfl⟩ := h
       exact ⟨k1, by simp; omega⟩
end Go.Proofs.YthaibekbefndlaaGreatDoor.C
