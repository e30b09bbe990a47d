/-
  Joined: LdA, LdB, LcD, LdC, LdD. Each with what its own head says.
-/
import Derived.Test.YthaibekbefndlaaGreatDoorG09
import Derived.Test.YthaibekbefndlaaGreatDoorG07
import Derived.Test.YthaibekbefndlaaGreatDoorG00

namespace Go.Proofs.YthaibekbefndlaaGreatDoor.C
open Go.RowKit

theorem CU.map {w w' : World} {R k M : Nat} {T : TV} {v1 v2 v3 v4 v5 : Value} {kd : TypeDesc} {l l' : List (Value × Value)} (h : CU w R T k v1 v2 v3 v4 v5) (hm : MapIs w M kd l) (hm' : MapIs w' M kd l') (hg : w.grownBy w' (some M)) : CU w' R T k v1 v2 v3 v4 v5 := by
  have hlt := h.lt
  obtain ⟨h1, h2, h3⟩ := h
  have hR : some R ≠ some M := by
    intro e
    injection e with e
    subst e
    obtain ⟨es, q, h4, _⟩ := hm
    rw [h1] at h4
    cases h4
  refine ⟨(hg.block R hlt hR).trans h1, h2.keep fun p hp => ?_, h3⟩
  by_cases hp' : p.block = M
  · obtain ⟨es, q, h4, _⟩ := hm
    obtain ⟨es', q', h4', _⟩ := hm'
    rw [← hp'] at h4 h4'
    simp [World.cell?, h4, h4']
  · exact World.cell?_of_block (hg.block p.block (by omega) (fun e => hp' (by injection e)))
theorem LTk.map {w w' : World} {b M : Nat} {x : Tok} {kd : TypeDesc} {l : List (Value × Value)} (h : LTk w b x) (hm : MapIs w M kd l) (hg : w.grownBy w' (some M)) : LTk w' b x := (hg.block b h.lt (by
  intro e
  injection e with e
  subst e
  obtain ⟨es, q, h4, _⟩ := hm
  rw [h] at h4
  cases h4)).trans h

/-- the cells of a slice of cells -/
def celC (c : List Int) : List Value := c.map (Value.int .i32)
/-- block M is a map of what is declared -/
def DeAt (w : World) (lo M : Nat) (d : List (List UInt8 × List Int)) : Prop :=
  ∃ vs : List Value, vs.length = d.length ∧ MapIs w M .string ((d.zip vs).map fun x => (.string (str x.1.1), x.2)) ∧ ∀ (i : Nat) (e : List UInt8 × List Int) (x : Value), d[i]? = some e → vs[i]? = some x → w.ownsRow lo 35 1 x e.2.length (celC e.2)
theorem DeAt.map {w : World} {lo M : Nat} {d : List (List UInt8 × List Int)} (h : DeAt w lo M d) : ∃ l, MapIs w M .string l := by
  obtain ⟨vs, _, h2, _⟩ := h
  exact ⟨_, h2⟩
theorem DeAt.fr {w w' : World} {X : Nat → Prop} {lo M : Nat} {d : List (List UInt8 × List Int)} (h : DeAt w lo M d) (hf : Fr w w' X) (hM : ¬ X M) (hx : ∀ g c z t, X g → w.heap[g]? = some (.cells c t z) → t ≠ 35) : DeAt w' lo M d := by
  obtain ⟨vs, h1, h2, h3⟩ := h
  refine ⟨vs, h1, h2.fr hf hM, fun i e x he hv => ownsRow_fr (h3 i e x he hv) hf ?_⟩
  intro g hg hX
  obtain ⟨c, hc⟩ := ownsRow_ty (h3 i e x he hv) hg
  exact hx g _ _ _ hX hc rfl
theorem DeAt.next {w w' : World} {lo M : Nat} {d : List (List UInt8 × List Int)} (h : DeAt w lo M d) (hb : Below w.heap.size w w') : DeAt w' lo M d := h.fr (X := fun _ => False) (.of_below hb) id (by rintro _ _ _ _ ⟨⟩)
theorem DeAt.drew {w : World} {lo M : Nat} {d : List (List UInt8 × List Int)} (h : DeAt w lo M d) : DeAt w.drew lo M d := h
theorem DeAt.frR {w w' : World} {R k : Nat} {T : TV} {v1 v2 v3 v4 v5 : Value} {lo M : Nat} {d : List (List UInt8 × List Int)} (h : DeAt w lo M d) (hc : CU w R T k v1 v2 v3 v4 v5) (hf : Fr w w' (· = R)) : DeAt w' lo M d := by
  refine h.fr hf ?_ ?_
  · rintro rfl
    obtain ⟨l, es, q, h1, _⟩ := h.map
    have e := h1.symm.trans hc.1
    simp at e
  · rintro g c z t rfl hg
    rw [hc.1] at hg
    simp at hg
    obtain ⟨-, rfl, -⟩ := hg
    decide
theorem zip_mem {d : List (List UInt8 × List Int)} {vs : List Value} (h : vs.length = d.length) {i : Nat} {e : List UInt8 × List Int} (he : d[i]? = some e) : ∃ x, vs[i]? = some x ∧ (e, x) ∈ d.zip vs := by
  have hi : i < d.length := (List.getElem?_eq_some_iff.1 he).1
  refine ⟨vs[i]'(by omega), by simp, ?_⟩
  have : (d.zip vs)[i]? = some (e, vs[i]'(by omega)) := by
    rw [List.getElem?_zip_eq_some]
    exact ⟨he, by simp⟩
  exact List.mem_of_getElem? this
theorem lookD_some {d : List (List UInt8 × List Int)} {n : List UInt8} {c : List Int} (h : lookD d n = some c) : ∃ i : Nat, d[i]? = some (n, c) := by
  unfold lookD at h
  cases hf : d.find? (fun x => decide (x.1 = n)) with
  | none => rw [hf] at h; cases h
  | some e =>
    rw [hf] at h
    injection h with h
    have h1 := List.find?_some hf
    have h2 := List.mem_of_find?_eq_some hf
    simp at h1
    obtain ⟨i, hi⟩ := List.getElem?_of_mem h2
    exact ⟨i, by rw [hi, ← h1, ← h]⟩
theorem lookD_none {d : List (List UInt8 × List Int)} {n : List UInt8} (h : lookD d n = none) : ∀ e ∈ d, e.1 ≠ n := by
  unfold lookD at h
  rw [Option.map_eq_none_iff, List.find?_eq_none] at h
  intro e he hn
  exact h e he (by simpa using hn)
theorem zeroCells (w : World) : (zeroValue 32).run Tryz.prog w = .ok (.slice none 0 0) w := by kernel_rfl
theorem DeAt.yes {w : World} {lo M : Nat} {d : List (List UInt8 × List Int)} {n : List UInt8} {c : List Int} (h : DeAt w lo M d) (hl : lookD d n = some c) :
    ∃ v, w.ownsRow lo 35 1 v c.length (celC c) ∧ (Instr.lookup 62 (.map (some M)) (.string (str n)) true).run Tryz.prog w = .ok (.tuple #[v, .bool true]) w := by
  obtain ⟨vs, h1, h2, h3⟩ := h
  obtain ⟨i, hi⟩ := lookD_some hl
  obtain ⟨x, hx, hm⟩ := zip_mem h1 hi
  refine ⟨x, h3 i _ x hi hx, ?_⟩
  exact h2.look_yes Tryz.underlying62 Tryz.underlying9 (by first | trivial | rfl) (v := x) (List.mem_map.2 ⟨_, hm, rfl⟩) true
theorem DeAt.keys {d : List (List UInt8 × List Int)} {vs : List Value} {n : List UInt8} (hl : lookD d n = none) : (.string (str n)) ∉ ((d.zip vs).map fun x => (Value.string (str x.1.1), x.2)).map Prod.fst := by
  rw [List.map_map, List.mem_map]
  rintro ⟨⟨e, x⟩, hx, he⟩
  simp at he
  exact lookD_none hl e (List.of_mem_zip hx).1 (str_inj he)
theorem DeAt.no {w : World} {lo M : Nat} {d : List (List UInt8 × List Int)} {n : List UInt8} (h : DeAt w lo M d) (hl : lookD d n = none) :
    (Instr.lookup 62 (.map (some M)) (.string (str n)) true).run Tryz.prog w = .ok (.tuple #[.slice none 0 0, .bool false]) w := by
  obtain ⟨vs, h1, h2, h3⟩ := h
  exact h2.look_no Tryz.underlying62 Tryz.underlying9 (by first | trivial | rfl) (DeAt.keys hl) (zeroCells w) true
/-- one more is declared -/
theorem DeAt.put {w : World} {lo M : Nat} {d : List (List UInt8 × List Int)} {n : List UInt8} {c : List Int} {v : Value} (h : DeAt w lo M d) (hl : lookD d n = none) (hv : w.ownsRow lo 35 1 v c.length (celC c)) :
    ∃ o, (Instr.mapUpdate 62 (.map (some M)) (.string (str n)) v).run Tryz.prog w = .ok () (putObj w M o) ∧ DeAt (putObj w M o) lo M (d ++ [(n, c)]) := by
  obtain ⟨vs, h1, h2, h3⟩ := h
  obtain ⟨o, q2, hM⟩ := h2.put_new Tryz.underlying62 Tryz.underlying9 (key := (.string (str n))) (by first | trivial | rfl) (DeAt.keys hl) v
  have hg := putObj_only (w := w) (M := M) o
  refine ⟨o, q2, vs ++ [v], by simp [h1], ?_, ?_⟩
  · rw [List.zip_append h1.symm, List.map_append]
    exact hM
  · have key : ∀ {n : Nat} {u : Value} {xs : List Value}, w.ownsRow lo 35 1 u n xs → (putObj w M o).ownsRow lo 35 1 u n xs := fun hu => hu.kept hg (.inr (row_nomap hu h2))
    intro i e y hd hy
    rcases Nat.lt_or_ge i d.length with hi | hi
    · rw [List.getElem?_append_left hi] at hd
      rw [List.getElem?_append_left (by omega)] at hy
      exact key (h3 i e y hd hy)
    · rw [List.getElem?_append_right hi] at hd
      rw [List.getElem?_append_right (by omega), h1] at hy
      have e0 : i - d.length = 0 := by
        rcases hq : i - d.length with _ | q
        · rfl
        · rw [hq] at hd
          simp at hd
      rw [e0] at hd hy
      simp at hd hy
      subst hd hy
      exact key hv

/-- an element's line, over what is declared alone -/
def elmC (d : List (List UInt8 × List Int)) (n : Tok) (r : List Tok) : Re (List (List UInt8 × List Int)) := match takeK [4] r with
  | .error e => .error e
  | .ok (q, r3) => if (cellsOf q.t).length < 2 ∨ 4 < (cellsOf q.t).length then .error (3, q.at_) else .ok (d ++ [(n.t, cellsOf q.t)], r3)
def elmB (d : List (List UInt8 × List Int)) (n : Tok) (r : List Tok) : Re (List (List UInt8 × List Int)) := match takeT 1 wFrom r with
  | .error e => .error e
  | .ok (_, r2) => elmC d n r2
def elmL (d : List (List UInt8 × List Int)) (ts : List Tok) : Re (List (List UInt8 × List Int)) := match takeK [5] ts with
  | .error e => .error e
  | .ok (n, r1) => if (lookD d n.t).isSome then .error (32, n.at_) else elmB d n r1
theorem elementL_elm (s : Sta) (ts : List Tok) : elementL s ts = match elmL s.d ts with
  | .error e => .error e
  | .ok (d, r) => .ok ({ s with d := d }, r) := by
  unfold elementL elmL
  cases takeK [5] ts with
  | error e => rfl
  | ok y =>
    obtain ⟨n, r⟩ := y
    simp only
    by_cases hn : (lookD s.d n.t).isSome
    · rw [if_pos hn, if_pos hn]
    · rw [if_neg hn, if_neg hn]
      unfold elmB
      cases takeT 1 wFrom r with
      | error e => rfl
      | ok y =>
        obtain ⟨u, r2⟩ := y
        simp only
        unfold elmC
        cases takeK [4] r2 with
        | error e => rfl
        | ok y =>
          obtain ⟨q, r3⟩ := y
          simp only
          by_cases hq : (cellsOf q.t).length < 2 ∨ 4 < (cellsOf q.t).length
          · rw [if_pos hq, if_pos hq]
          · rw [if_neg hq, if_neg hq]
section
variable {d : List (List UInt8 × List Int)} {n x : Tok} {r : List Tok}
theorem elmL_no (h : ¬ x.k = 5) : elmL d (x :: r) = .error (30, x.at_) := by rw [elmL, takeK, if_neg (by simpa using h)]
theorem elmL_twice {c : List Int} (h : x.k = 5) (hl : lookD d x.t = some c) : elmL d (x :: r) = .error (32, x.at_) := by
  rw [elmL, takeK, if_pos (by simpa using h)]
  exact if_pos (by rw [hl]; rfl)
theorem elmL_yes (h : x.k = 5) (hl : lookD d x.t = none) : elmL d (x :: r) = elmB d x r := by
  rw [elmL, takeK, if_pos (by simpa using h)]
  exact if_neg (by rw [hl]; simp)
theorem elmB_no (h : ¬ (x.k = 1 ∧ x.t = wFrom)) : elmB d n (x :: r) = .error (30, x.at_) := by rw [elmB, takeT, if_neg h]
theorem elmB_yes (h : x.k = 1 ∧ x.t = wFrom) : elmB d n (x :: r) = elmC d n r := by rw [elmB, takeT, if_pos h]
theorem elmC_no (h : ¬ x.k = 4) : elmC d n (x :: r) = .error (30, x.at_) := by rw [elmC, takeK, if_neg (by simpa using h)]
theorem elmC_long (h : x.k = 4) (hl : (cellsOf x.t).length < 2 ∨ 4 < (cellsOf x.t).length) : elmC d n (x :: r) = .error (3, x.at_) := by
  rw [elmC, takeK, if_pos (by simpa using h)]
  exact if_pos hl
theorem elmC_yes (h : x.k = 4) (hl : ¬ ((cellsOf x.t).length < 2 ∨ 4 < (cellsOf x.t).length)) : elmC d n (x :: r) = .ok (d ++ [(n.t, cellsOf x.t)], r) := by
  rw [elmC, takeK, if_pos (by simpa using h)]
  exact if_neg hl
end
/-- the texts of tokens are short -/
def TxtOk (T : TV) : Prop := ∀ t ∈ T.ts, t.t.length ≤ 4000
theorem TxtOk.at_ {T : TV} (h : TxtOk T) {k : Nat} {x : Tok} {r : List Tok} (hr : T.ts.drop k = x :: r) : x.t.length ≤ 4000 := h x (List.mem_of_mem_drop (i := k) (by rw [hr]; simp))
/-- what an element's line answers -/
def EdTold (w : World) (lo R : Nat) (T : TV) (v1 v2 v3 v4 : Value) (M : Nat) : Re (List (List UInt8 × List Int)) → Ending → World → Prop
  | .ok (d, r), e, w' => ∃ k, e = .returned (.tuple #[]) ∧ CU w' R T k v1 v2 v3 v4 (.map (some M)) ∧ T.ts.drop k = r ∧ DeAt w' lo M d ∧ Fr w w' (fun j => j = R ∨ j = M)
  | .error er, e, w' => e = .panicked (faultV er.1 er.2) ∧ Fr w w' (fun j => j = R ∨ j = M)
end Go.Proofs.YthaibekbefndlaaGreatDoor.C

namespace Go.Proofs.YthaibekbefndlaaGreatDoor.C
open Go.RowKit

section
variable (w : World) (lo R : Nat) (T : TV) (k : Nat) (v1 v2 v3 v4 : Value) (M : Nat) (d : List (List UInt8 × List Int))
set_option maxRecDepth 100000 in
set_option maxHeartbeats 8000000 in
theorem element_any (h : CU w R T k v1 v2 v3 v4 (.map (some M))) (hN : TxtOk T) (hE : Ended (T.ts.drop k)) (hd : DeAt w lo M d) (hlw : lo ≤ w.heap.size) :
    Calls Tryz.prog 78 #[.pointer (some ⟨R, 0, none⟩)] w (EdTold w lo R T v1 v2 v3 v4 M (elmL d (T.ts.drop k))) := by
  obtain ⟨x0, r0, hx0⟩ := hE.some_
  have hR := h.lt
  obtain ⟨X, hX⟩ : ∃ X, X = elmL d (T.ts.drop k) := ⟨_, rfl⟩
  rw [← hX]
  rw [hx0] at hX
  by_cases c0 : x0.k = 5
  rotate_left
  · have hta := take1_no w R T k v1 v2 v3 v4 (.map (some M)) x0 r0 _ rfl 5 h hx0 c0
    rw [hX, elmL_no c0]
    clear h hN hE hd hX c0 hx0
    go_enter Tryz.func78, Tryz.ntmps78
    go_wp2_with fail
    refine hta.mono ?_
    rintro e w1 ⟨rfl, hm1⟩
    exact ⟨rfl, rfl, (Fr.of_moved hm1).mono fun _ _ e => .inl e⟩
  have hta := take1_yes w R T k v1 v2 v3 v4 (.map (some M)) x0 r0 _ rfl 5 h hx0 c0
  have HD0 := Lib.hid hx0
  have HE0 := Lib.hid (hx0 ▸ hE)
  have HX := Lib.hid hX
  have HN := Lib.hid hN
  have HCU := Lib.hid h
  have HDE := Lib.hid hd
  have C0 := Lib.hid c0
  clear h hN hE hd hX c0 hx0
  go_enter Tryz.func78, Tryz.ntmps78
  go_wp2_with fail
  refine hta.mono ?_
  rintro e w1 ⟨rfl, hc1, hm1⟩
  obtain ⟨W1, hW1⟩ : ∃ W1, W1 = w1.alloc (.cells #[.int .u8 x0.k, .string (str x0.t), .int .i64 x0.n, .int .i64 x0.at_] 92) := ⟨_, rfl⟩
  have HT1 : Hid (LTk W1 w1.heap.size x0) := Lib.hid (by rw [hW1]; exact LTk.new w1 x0)
  have HC1 : Hid (CU W1 R T (k + 1) v1 v2 v3 v4 (.map (some M))) := Lib.hid (by rw [hW1]; exact hc1.alloc _)
  have HF1 : Hid (Fr w W1 (· = R)) := Lib.hid (by rw [hW1]; exact (Fr.of_moved hm1).alloc _)
  have HD1 := Lib.hid (HDE.out.frR HCU.out HF1.out)
  have hb1R : w1.heap.size ≠ R := by have := hc1.lt; omega
  have hs1 := HF1.out.size
  clear hc1 hm1 hta
  unfold tkV
  go_wp2_with fail
  rw [← hW1]
  clear hW1
  have q1 := HC1.out.drew.more.2.2.2.2
  obtain ⟨t0, t1, t2, t3⟩ := HT1.out.drew.cells
  cases hl : lookD d x0.t with
  | some c =>
    obtain ⟨v, -, hlk⟩ := HD1.out.drew.yes hl
    have HX2 := Lib.hid (HX.out.trans (elmL_twice C0.out hl))
    have hrf := fun W => refuse_any 32 x0 W
    unfold tkV at hrf
    clear hl
    go_region_held3 (fun w' => w'.cell? ⟨R, 6, none⟩ = some (.map (some M)) ∧ w'.cell? ⟨w1.heap.size, 1, none⟩ = some (.string (str x0.t))) (go_keep) (fail)
    go_wp2_with fail
    refine (hrf _).mono ?_
    rintro e w2 ⟨rfl, hb2⟩
    have eX := HX2.out
    subst eX
    exact ⟨rfl, rfl, (HF1.out.drew.mono fun _ _ e => .inl e).trans (.of_below hb2)⟩
  | none =>
    have hlk := HD1.out.drew.no hl
    have HX2 := Lib.hid (HX.out.trans (elmL_yes C0.out hl))
    have HL := Lib.hid hl
    clear hl
    go_region_held3 (fun w' => w'.cell? ⟨R, 6, none⟩ = some (.map (some M)) ∧ w'.cell? ⟨w1.heap.size, 1, none⟩ = some (.string (str x0.t))) (go_keep) (fail)
    clear hlk q1 t0 t1 t2 t3
    have hE1 := HE0.out.cons (by rw [C0.out]; omega)
    obtain ⟨x1, r1, hx1⟩ := hE1.some_
    have hd1 : T.ts.drop (k + 1) = x1 :: r1 := (drop_next HD0.out).trans hx1
    have HDr1 := Lib.hid hd1
    have HE1 := Lib.hid (hx1 ▸ hE1)
    rw [hx1] at HX2
    clear hE1 hx1 hd1
    by_cases c1 : x1.k = 1 ∧ x1.t = wFrom
    rotate_left
    · have hta := takeText_no W1.drew R T (k + 1) v1 v2 v3 v4 (.map (some M)) x1 r1 1 wFrom HC1.out.drew HDr1.out c1
      have HX3 := Lib.hid (HX2.out.trans (elmB_no c1))
      clear c1
      go_wp2_with fail
      refine hta.mono ?_
      rintro e w2 ⟨rfl, hm2⟩
      have eX := HX3.out
      subst eX
      exact ⟨rfl, rfl, (HF1.out.drew.mono fun _ _ e => .inl e).next (Fr.of_moved hm2) (fun j _ e => .inl e)⟩
    have hta := takeText_yes W1.drew R T (k + 1) v1 v2 v3 v4 (.map (some M)) x1 r1 1 wFrom HC1.out.drew HDr1.out c1.1 c1.2
    have HX3 := Lib.hid (HX2.out.trans (elmB_yes c1))
    have hE2 := HE1.out.cons (by omega)
    clear c1
    go_wp2_with fail
    refine hta.mono ?_
    rintro e w2 ⟨rfl, hc2, hm2⟩
    have HC2 := Lib.hid hc2
    have HF2 := Lib.hid (HF1.out.drew.next (Fr.of_moved hm2) (fun j _ e => e))
    have HT2 := Lib.hid (HT1.out.drew.moved hm2 hb1R)
    have HDE2 := Lib.hid (HD1.out.drew.frR HC1.out.drew (Fr.of_moved hm2))
    obtain ⟨x2, r2, hx2⟩ := hE2.some_
    have hd2 : T.ts.drop (k + 1 + 1) = x2 :: r2 := (drop_next HDr1.out).trans hx2
    have HDr2 := Lib.hid hd2
    have hn2 := HN.out.at_ hd2
    rw [hx2] at HX3
    clear hc2 hm2 hta hE2 hx2 hd2
    by_cases c2 : x2.k = 4
    rotate_left
    · have hta := take1_no w2 R T (k + 1 + 1) v1 v2 v3 v4 (.map (some M)) x2 r2 _ rfl 4 HC2.out HDr2.out c2
      have HX4 := Lib.hid (HX3.out.trans (elmC_no c2))
      clear c2
      go_wp2_with fail
      refine hta.mono ?_
      rintro e w3 ⟨rfl, hm3⟩
      have eX := HX4.out
      subst eX
      exact ⟨rfl, rfl, (HF2.out.mono fun _ _ e => .inl e).next (Fr.of_moved hm3) (fun j _ e => .inl e)⟩
    have hta := take1_yes w2 R T (k + 1 + 1) v1 v2 v3 v4 (.map (some M)) x2 r2 _ rfl 4 HC2.out HDr2.out c2
    have C2 := Lib.hid c2
    clear c2
    go_wp2_with fail
    refine hta.mono ?_
    rintro e w3 ⟨rfl, hc3, hm3⟩
    obtain ⟨W3, hW3⟩ : ∃ W3, W3 = w3.alloc (.cells #[.int .u8 x2.k, .string (str x2.t), .int .i64 x2.n, .int .i64 x2.at_] 92) := ⟨_, rfl⟩
    have HT30 : Hid (LTk W3 w1.heap.size x0) := Lib.hid (by rw [hW3]; exact (HT2.out.moved hm3 hb1R).alloc _)
    have HT32 : Hid (LTk W3 w3.heap.size x2) := Lib.hid (by rw [hW3]; exact LTk.new w3 x2)
    have HC3 : Hid (CU W3 R T (k + 1 + 1 + 1) v1 v2 v3 v4 (.map (some M))) := Lib.hid (by rw [hW3]; exact hc3.alloc _)
    have hf3 : Fr w2 W3 (· = R) := by rw [hW3]; exact (Fr.of_moved hm3).alloc _
    have HF3 := Lib.hid (HF2.out.next hf3 (fun j _ e => e))
    have HDE3 := Lib.hid (HDE2.out.frR HC2.out hf3)
    obtain ⟨-, p1, -, -⟩ := HT32.out.cells
    rw [hW3] at p1
    have hs3 := HF3.out.size
    have hof := of_any (str x2.t) W3 (by show x2.t.toArray.size ≤ _; simp; omega)
    clear hc3 hm3 hta hf3
    unfold tkV
    go_wp2_with fail
    rw [← hW3]
    clear hW3 p1
    refine hof.mono ?_
    rintro e w4 ⟨v, rfl, ho4, hb4⟩
    have HO4 := Lib.hid ho4
    have HB4 := Lib.hid hb4
    have HC4 := Lib.hid (HC3.out.next hb4)
    have HT40 := Lib.hid (HT30.out.moved (.of_below (R := R) hb4) hb1R)
    have HT42 : Hid (LTk w4 w3.heap.size x2) := Lib.hid ((hb4.block w3.heap.size HT32.out.lt).trans HT32.out)
    have HDE4 := Lib.hid (HDE3.out.next hb4)
    have HF4 := Lib.hid (HF3.out.trans (.of_below hb4))
    have hlen : (ofL (str x2.t)).length = (cellsOf x2.t).length := rfl
    rw [hlen] at HO4 ho4
    obtain ⟨A, cap, rfl⟩ : ∃ A cap, v = .slice A (cellsOf x2.t).length cap := by
      rcases Joins.ownsRow_forms ho4 with ⟨rfl, h0⟩ | ⟨g, c, rfl⟩
      · exact ⟨none, 0, by rw [h0]⟩
      · exact ⟨_, _, rfl⟩
    obtain ⟨n, hn⟩ : ∃ n, n = (cellsOf x2.t).length := ⟨_, rfl⟩
    have HNL := Lib.hid hn
    obtain ⟨t0, t1, t2, t3⟩ := HT42.out.cells
    have hrf := fun W => refuse_any 3 x2 W
    unfold tkV at hrf
    rw [← hn] at HO4 ho4 ⊢
    clear hof hb4 hlen hn ho4
    by_cases c3 : n < 2
    · have i3 : (n : Int) < 2 := by omega
      have HX5 := Lib.hid (HX3.out.trans (elmC_long C2.out (.inl (by rw [← HNL.out]; exact c3))))
      go_wp2_with fail
      refine (hrf _).mono ?_
      rintro e w5 ⟨rfl, hb5⟩
      have eX := HX5.out
      subst eX
      exact ⟨rfl, rfl, (HF4.out.mono fun _ _ e => .inl e).trans (.of_below hb5)⟩
    have i3 : ¬ (n : Int) < 2 := by omega
    by_cases c4 : 4 < n
    · have i4 : (4 : Int) < (n : Int) := by omega
      have HX5 := Lib.hid (HX3.out.trans (elmC_long C2.out (.inr (by rw [← HNL.out]; exact c4))))
      go_wp2_with fail
      refine (hrf _).mono ?_
      rintro e w5 ⟨rfl, hb5⟩
      have eX := HX5.out
      subst eX
      exact ⟨rfl, rfl, (HF4.out.mono fun _ _ e => .inl e).trans (.of_below hb5)⟩
    have i4 : ¬ (4 : Int) < (n : Int) := by omega
    have HX5 := Lib.hid (HX3.out.trans (elmC_yes C2.out (by rw [← HNL.out]; omega)))
    go_wp2_with fail
    have q1 := HC4.out.drew.more.2.2.2.2
    obtain ⟨-, t1', -, -⟩ := HT40.out.drew.cells
    obtain ⟨o, hup, hde⟩ := HDE4.out.drew.put (c := cellsOf x2.t) (v := .slice A n cap) HL.out (by
      have := HO4.out
      rw [HNL.out] at this ⊢
      exact Joins.ownsRow_le this (by omega))
    have HDE5 := Lib.hid hde
    obtain ⟨l, hl⟩ := HDE4.out.drew.map
    obtain ⟨l', hl'⟩ := hde.map
    have hg := putObj_only (w := w4.drew) (M := M) o
    have HC5 := Lib.hid (HC4.out.drew.map hl hl' hg)
    have HT5 := Lib.hid (HT40.out.drew.map hl hg)
    have q2 := HC5.out.more.2.2.2.2
    obtain ⟨-, t2', -, -⟩ := HT5.out.cells
    have HG := Lib.hid hg
    clear hde hl hl' hg t0 t1 t2 t3 hrf c3 c4 i3 i4
    go_region_held3 (fun w' => w'.cell? ⟨R, 6, none⟩ = some (.map (some M)) ∧ w'.cell? ⟨w1.heap.size, 1, none⟩ = some (.string (str x0.t))) (go_keep) (fail)
    have eX := HX5.out
    subst eX
    go_end0
    exact ⟨k + 1 + 1 + 1, rfl, HC5.out, drop_next HDr2.out, HDE5.out, (HF4.out.drew.mono fun _ _ e => .inl e).next (Fr.of_grown HG.out) (fun j _ e => .inr (by injection e with e; exact e.symm))⟩
end
end Go.Proofs.YthaibekbefndlaaGreatDoor.C

namespace Go.Proofs.YthaibekbefndlaaGreatDoor.C
open Go.RowKit

/-- a slice of structs of sz cells each: its value (address A, length n) reads as these rows of cells, below block B; nil let in -/
def SI (sz : Nat) (w : World) (B : Nat) (A : Option Addr) (n : Nat) (xs : List (List Value)) : Prop :=
  xs.length = n ∧ (∀ x ∈ xs, x.length = sz) ∧ (0 < n → ∃ ad, A = some ad ∧ ad.block < B ∧ ∀ j x, xs[j]? = some x → ∀ i u, x[i]? = some u → w.cell? (ad.add (j * sz + i)) = some u)
section
variable {sz : Nat} {w w' : World} {B B' n : Nat} {A : Option Addr} {xs : List (List Value)}
theorem SI.len (h : SI sz w B A n xs) : xs.length = n := h.1
theorem SI.nil (sz : Nat) (w : World) (B : Nat) (A : Option Addr) : SI sz w B A 0 [] := ⟨rfl, by simp, fun h => absurd h (by omega)⟩
theorem SI.keep (h : SI sz w B A n xs) (hk : ∀ p : Addr, p.block < B → w'.cell? p = w.cell? p) : SI sz w' B A n xs :=
  ⟨h.1, h.2.1, fun hn => by
    obtain ⟨ad, e, hb, hc⟩ := h.2.2 hn
    exact ⟨ad, e, hb, fun j x hx i u hu => (hk _ (by rw [block_of_add]; exact hb)).trans (hc j x hx i u hu)⟩⟩
theorem SI.more (h : SI sz w B A n xs) (hB : B ≤ B') : SI sz w B' A n xs :=
  ⟨h.1, h.2.1, fun hn => by
    obtain ⟨ad, e, hb, hc⟩ := h.2.2 hn
    exact ⟨ad, e, by omega, hc⟩⟩
theorem SI.on (h : SI sz w B A n xs) (hb : Below B' w w') (hB : B ≤ B') : SI sz w' B A n xs := h.keep fun p hp => hb.cell (p := p) (by omega)
theorem SI.drewN (h : SI sz w B A n xs) (k : Nat) : SI sz (w.drewN k) B A n xs := h
theorem SI.grown (h : SI sz w B A n xs) {row : Option Nat} (hg : w.grownBy w' row) (hB : B ≤ w.heap.size) (hr : ∀ g, row = some g → B ≤ g) : SI sz w' B A n xs :=
  h.keep fun p hp => World.cell?_of_block (hg.block p.block (by omega) (fun e => by have := hr _ e.symm; omega))
theorem SI.at_ (h : SI sz w B A n xs) {k : Nat} (hk : k < n) : ∃ ad x, A = some ad ∧ ad.block < B ∧ xs[k]? = some x ∧ x.length = sz ∧ ∀ i u, x[i]? = some u → w.cell? (ad.add (k * sz + i)) = some u := by
  obtain ⟨ad, e, hb, hc⟩ := h.2.2 (by omega)
  have hl : k < xs.length := by have := h.1; omega
  exact ⟨ad, xs[k], e, hb, List.getElem?_eq_getElem hl, h.2.1 _ (List.getElem_mem hl), hc k _ (List.getElem?_eq_getElem hl)⟩
theorem add_more' (a : Addr) (j i : Nat) (hi : 0 < i) : (⟨(a.add j).block, (a.add j).off + i, none⟩ : Addr) = a.add (j + i) := by
  unfold Addr.add
  by_cases h : j = 0
  · subst h
    rw [if_pos rfl, Nat.zero_add, if_neg (by omega)]
  · rw [if_neg h, if_neg (by omega), Nat.add_assoc]
end
theorem SI.at2 {w : World} {B n : Nat} {A : Option Addr} {xs : List (List Value)} (h : SI 2 w B A n xs) {k : Nat} (hk : k < n) : ∃ ad u v, A = some ad ∧ ad.block < B ∧ xs[k]? = some [u, v] ∧ w.cell? (ad.add (k * 2)) = some u ∧ w.cell? ⟨(ad.add (k * 2)).block, (ad.add (k * 2)).off + 1, none⟩ = some v := by
  obtain ⟨ad, x, e, hb, hx, hl, hc⟩ := h.at_ hk
  match x, hl with
  | [u, v], _ => exact ⟨ad, u, v, e, hb, hx, hc 0 u rfl, by rw [add_more' _ _ _ (by omega)]; exact hc 1 v rfl⟩
theorem SI.at3 {w : World} {B n : Nat} {A : Option Addr} {xs : List (List Value)} (h : SI 3 w B A n xs) {k : Nat} (hk : k < n) : ∃ ad u v z, A = some ad ∧ ad.block < B ∧ xs[k]? = some [u, v, z] ∧ w.cell? (ad.add (k * 3)) = some u ∧ w.cell? ⟨(ad.add (k * 3)).block, (ad.add (k * 3)).off + 1, none⟩ = some v ∧ w.cell? ⟨(ad.add (k * 3)).block, (ad.add (k * 3)).off + 2, none⟩ = some z := by
  obtain ⟨ad, x, e, hb, hx, hl, hc⟩ := h.at_ hk
  match x, hl with
  | [u, v, z], _ => exact ⟨ad, u, v, z, e, hb, hx, hc 0 u rfl, by rw [add_more' _ _ _ (by omega)]; exact hc 1 v rfl, by rw [add_more' _ _ _ (by omega)]; exact hc 2 z rfl⟩

/-- what a search by a closure answers: the first place at which it says yes, or -1 -/
def FoundAt (n : Nat) (q : Nat → Bool) (Inv : Nat → World → Prop) (Fin : Nat → World → Prop) (e : Ending) (w' : World) : Prop :=
  (∃ k, k < n ∧ q k = true ∧ (∀ j, j < k → q j = false) ∧ e = .returned (.int .i64 k) ∧ Fin k w') ∨ ((∀ j, j < n → q j = false) ∧ e = .returned (.int .i64 (-1)) ∧ Inv n w')
def HasIt (n : Nat) (q : Nat → Bool) (Inv : Nat → World → Prop) (Fin : Nat → World → Prop) (e : Ending) (w' : World) : Prop :=
  (∃ k, k < n ∧ q k = true ∧ (∀ j, j < k → q j = false) ∧ e = .returned (.bool true) ∧ Fin k w') ∨ ((∀ j, j < n → q j = false) ∧ e = .returned (.bool false) ∧ Inv n w')
/-- what a closure answers of the element at a place -/
def Asked (b : Bool) (Inv : World → Prop) (Fin : World → Prop) (e : Ending) (w' : World) : Prop := e = .returned (.bool b) ∧ (b = false → Inv w') ∧ (b = true → Fin w')
theorem asked_step {q : Nat → Bool} {k : Nat} (hq : ∀ j, j < k → q j = false) (h : q k = false) : ∀ j, j < k + 1 → q j = false := fun j hj => by
  rcases Nat.lt_or_ge j k with h1 | h1
  · exact hq j h1
  · obtain rfl : j = k := by omega
    exact h

set_option maxRecDepth 100000 in
set_option maxHeartbeats 4000000 in
theorem findRange_any (w : World) (B : Nat) (A : Option Addr) (n c : Nat) (xs : List (List Value)) (V0 : Nat) (q : Nat → Bool) (Inv : Nat → World → Prop) (Fin : Nat → World → Prop) (hn : n ≤ maxLen) (h0 : Inv 0 w)
    (hk : ∀ k W, Inv k W → SI 2 W B A n xs)
    (hs : ∀ k u v W, xs[k]? = some [u, v] → Inv k W → Calls Tryz.prog 104 #[.agg #[u, v], .pointer (some ⟨V0, 0, none⟩)] W (Asked (q k) (Inv (k + 1)) (Fin k))) :
    Calls Tryz.prog 157 #[.slice A n c, .func (.func 104) #[] #[.pointer (some ⟨V0, 0, none⟩)]] w (FoundAt n q Inv Fin) := by
  unfold maxLen at hn
  have HK := Lib.hid hk
  have HS := Lib.hid hs
  have H0 := Lib.hid h0
  clear hk hs h0
  go_enter Tryz.func157, Tryz.ntmps157
  go_wp2
  go_loopw [8] (fun iv wr => ∃ k : Nat, k ≤ n ∧ iv = .int .i64 k ∧ Hid (Inv k wr) ∧ Hid (∀ j, j < k → q j = false)) (fun iv _ => n - (intOf iv).toNat)
  case atStart => exact ⟨0, Nat.zero_le _, rfl, H0, Lib.hid (fun j hj => absurd hj (by omega))⟩
  case round =>
    obtain ⟨k, hkn, rfl, HI, HQ⟩ := hrel
    by_cases hlt : k < n
    · obtain ⟨ad, u, v, rfl, hb, hx, c0, c1⟩ := (HK.out k wr HI.out).at2 hlt
      have hc := HS.out k u v wr hx HI.out
      clear hx
      cases hq : q k with
      | true =>
        rw [hq] at hc
        have HQK := Lib.hid hq
        clear hq
        go_wp2_with (go_at_call 104; refine hc.mono ?_; rintro e w2 ⟨rfl, -, hf⟩; have HF := Lib.hid (hf rfl); clear hf hc)
        go_ret
        exact .inl ⟨k, hlt, HQK.out, HQ.out, rfl, HF.out⟩
      | false =>
        rw [hq] at hc
        have HQK := Lib.hid hq
        clear hq
        go_wp2_with (go_at_call 104; refine hc.mono ?_; rintro e w2 ⟨rfl, hf, -⟩; have HF := Lib.hid (hf rfl); clear hf hc)
        go_roundw
        case rel => exact ⟨k + 1, by omega, by go_num, HF, Lib.hid (asked_step HQ.out HQK.out)⟩
        case measure => simp [intOf]; omega
    · obtain rfl : k = n := by omega
      go_wp2
      go_ret
      exact .inr ⟨HQ.out, rfl, HI.out⟩

set_option maxRecDepth 100000 in
set_option maxHeartbeats 4000000 in
theorem hasRange_any (w : World) (B : Nat) (A : Option Addr) (n c : Nat) (xs : List (List Value)) (V0 : Nat) (q : Nat → Bool) (Inv : Nat → World → Prop) (Fin : Nat → World → Prop) (hn : n ≤ maxLen) (h0 : Inv 0 w)
    (hk : ∀ k W, Inv k W → SI 2 W B A n xs)
    (hs : ∀ k u v W, xs[k]? = some [u, v] → Inv k W → Calls Tryz.prog 104 #[.agg #[u, v], .pointer (some ⟨V0, 0, none⟩)] W (Asked (q k) (Inv (k + 1)) (Fin k))) :
    Calls Tryz.prog 103 #[.slice A n c, .func (.func 104) #[] #[.pointer (some ⟨V0, 0, none⟩)]] w (HasIt n q Inv Fin) := by
  have hf := findRange_any w B A n c xs V0 q Inv Fin hn h0 hk hs
  clear hk hs h0 hn
  go_enter Tryz.func103, Tryz.ntmps103
  go_wp2_with fail
  refine hf.mono ?_
  intro e w2 h2
  rcases h2 with ⟨k, h1, h2, h3, rfl, h5⟩ | ⟨h1, rfl, h5⟩
  · have HH : Hid (HasIt n q Inv Fin (.returned (.bool true)) w2) := Lib.hid (.inl ⟨k, h1, h2, h3, rfl, h5⟩)
    clear h2 h3 h5
    go_wp2
    go_ret
    exact HH.out
  · have HH : Hid (HasIt n q Inv Fin (.returned (.bool false)) w2) := Lib.hid (.inr ⟨h1, rfl, h5⟩)
    clear h1 h5
    go_wp2
    go_ret
    exact HH.out

set_option maxRecDepth 100000 in
set_option maxHeartbeats 4000000 in
theorem findPair_any (w : World) (B : Nat) (A : Option Addr) (n c : Nat) (xs : List (List Value)) (V0 : Nat) (q : Nat → Bool) (Inv : Nat → World → Prop) (Fin : Nat → World → Prop) (hn : n ≤ maxLen) (h0 : Inv 0 w)
    (hk : ∀ k W, Inv k W → SI 2 W B A n xs)
    (hs : ∀ k u v W, xs[k]? = some [u, v] → Inv k W → Calls Tryz.prog 107 #[.agg #[u, v], .pointer (some ⟨V0, 0, none⟩)] W (Asked (q k) (Inv (k + 1)) (Fin k))) :
    Calls Tryz.prog 158 #[.slice A n c, .func (.func 107) #[] #[.pointer (some ⟨V0, 0, none⟩)]] w (FoundAt n q Inv Fin) := by
  unfold maxLen at hn
  have HK := Lib.hid hk
  have HS := Lib.hid hs
  have H0 := Lib.hid h0
  clear hk hs h0
  go_enter Tryz.func158, Tryz.ntmps158
  go_wp2
  go_loopw [8] (fun iv wr => ∃ k : Nat, k ≤ n ∧ iv = .int .i64 k ∧ Hid (Inv k wr) ∧ Hid (∀ j, j < k → q j = false)) (fun iv _ => n - (intOf iv).toNat)
  case atStart => exact ⟨0, Nat.zero_le _, rfl, H0, Lib.hid (fun j hj => absurd hj (by omega))⟩
  case round =>
    obtain ⟨k, hkn, rfl, HI, HQ⟩ := hrel
    by_cases hlt : k < n
    · obtain ⟨ad, u, v, rfl, hb, hx, c0, c1⟩ := (HK.out k wr HI.out).at2 hlt
      have hc := HS.out k u v wr hx HI.out
      clear hx
      cases hq : q k with
      | true =>
        rw [hq] at hc
        have HQK := Lib.hid hq
        clear hq
        go_wp2_with (go_at_call 107; refine hc.mono ?_; rintro e w2 ⟨rfl, -, hf⟩; have HF := Lib.hid (hf rfl); clear hf hc)
        go_ret
        exact .inl ⟨k, hlt, HQK.out, HQ.out, rfl, HF.out⟩
      | false =>
        rw [hq] at hc
        have HQK := Lib.hid hq
        clear hq
        go_wp2_with (go_at_call 107; refine hc.mono ?_; rintro e w2 ⟨rfl, hf, -⟩; have HF := Lib.hid (hf rfl); clear hf hc)
        go_roundw
        case rel => exact ⟨k + 1, by omega, by go_num, HF, Lib.hid (asked_step HQ.out HQK.out)⟩
        case measure => simp [intOf]; omega
    · obtain rfl : k = n := by omega
      go_wp2
      go_ret
      exact .inr ⟨HQ.out, rfl, HI.out⟩

set_option maxRecDepth 100000 in
set_option maxHeartbeats 4000000 in
theorem hasPair_any (w : World) (B : Nat) (A : Option Addr) (n c : Nat) (xs : List (List Value)) (V0 : Nat) (q : Nat → Bool) (Inv : Nat → World → Prop) (Fin : Nat → World → Prop) (hn : n ≤ maxLen) (h0 : Inv 0 w)
    (hk : ∀ k W, Inv k W → SI 2 W B A n xs)
    (hs : ∀ k u v W, xs[k]? = some [u, v] → Inv k W → Calls Tryz.prog 107 #[.agg #[u, v], .pointer (some ⟨V0, 0, none⟩)] W (Asked (q k) (Inv (k + 1)) (Fin k))) :
    Calls Tryz.prog 106 #[.slice A n c, .func (.func 107) #[] #[.pointer (some ⟨V0, 0, none⟩)]] w (HasIt n q Inv Fin) := by
  have hf := findPair_any w B A n c xs V0 q Inv Fin hn h0 hk hs
  clear hk hs h0 hn
  go_enter Tryz.func106, Tryz.ntmps106
  go_wp2_with fail
  refine hf.mono ?_
  intro e w2 h2
  rcases h2 with ⟨k, h1, h2, h3, rfl, h5⟩ | ⟨h1, rfl, h5⟩
  · have HH : Hid (HasIt n q Inv Fin (.returned (.bool true)) w2) := Lib.hid (.inl ⟨k, h1, h2, h3, rfl, h5⟩)
    clear h2 h3 h5
    go_wp2
    go_ret
    exact HH.out
  · have HH : Hid (HasIt n q Inv Fin (.returned (.bool false)) w2) := Lib.hid (.inr ⟨h1, rfl, h5⟩)
    clear h1 h5
    go_wp2
    go_ret
    exact HH.out

set_option maxRecDepth 100000 in
set_option maxHeartbeats 4000000 in
theorem findClass_any (w : World) (B : Nat) (A : Option Addr) (n c : Nat) (xs : List (List Value)) (V0 : Nat) (q : Nat → Bool) (Inv : Nat → World → Prop) (Fin : Nat → World → Prop) (hn : n ≤ maxLen) (h0 : Inv 0 w)
    (hk : ∀ k W, Inv k W → SI 2 W B A n xs)
    (hs : ∀ k u v W, xs[k]? = some [u, v] → Inv k W → Calls Tryz.prog 101 #[.agg #[u, v], .pointer (some ⟨V0, 0, none⟩)] W (Asked (q k) (Inv (k + 1)) (Fin k))) :
    Calls Tryz.prog 149 #[.slice A n c, .func (.func 101) #[] #[.pointer (some ⟨V0, 0, none⟩)]] w (FoundAt n q Inv Fin) := by
  unfold maxLen at hn
  have HK := Lib.hid hk
  have HS := Lib.hid hs
  have H0 := Lib.hid h0
  clear hk hs h0
  go_enter Tryz.func149, Tryz.ntmps149
  go_wp2
  go_loopw [8] (fun iv wr => ∃ k : Nat, k ≤ n ∧ iv = .int .i64 k ∧ Hid (Inv k wr) ∧ Hid (∀ j, j < k → q j = false)) (fun iv _ => n - (intOf iv).toNat)
  case atStart => exact ⟨0, Nat.zero_le _, rfl, H0, Lib.hid (fun j hj => absurd hj (by omega))⟩
  case round =>
    obtain ⟨k, hkn, rfl, HI, HQ⟩ := hrel
    by_cases hlt : k < n
    · obtain ⟨ad, u, v, rfl, hb, hx, c0, c1⟩ := (HK.out k wr HI.out).at2 hlt
      have hc := HS.out k u v wr hx HI.out
      clear hx
      cases hq : q k with
      | true =>
        rw [hq] at hc
        have HQK := Lib.hid hq
        clear hq
        go_wp2_with (go_at_call 101; refine hc.mono ?_; rintro e w2 ⟨rfl, -, hf⟩; have HF := Lib.hid (hf rfl); clear hf hc)
        go_ret
        exact .inl ⟨k, hlt, HQK.out, HQ.out, rfl, HF.out⟩
      | false =>
        rw [hq] at hc
        have HQK := Lib.hid hq
        clear hq
        go_wp2_with (go_at_call 101; refine hc.mono ?_; rintro e w2 ⟨rfl, hf, -⟩; have HF := Lib.hid (hf rfl); clear hf hc)
        go_roundw
        case rel => exact ⟨k + 1, by omega, by go_num, HF, Lib.hid (asked_step HQ.out HQK.out)⟩
        case measure => simp [intOf]; omega
    · obtain rfl : k = n := by omega
      go_wp2
      go_ret
      exact .inr ⟨HQ.out, rfl, HI.out⟩

set_option maxRecDepth 100000 in
set_option maxHeartbeats 4000000 in
theorem hasClass_any (w : World) (B : Nat) (A : Option Addr) (n c : Nat) (xs : List (List Value)) (V0 : Nat) (q : Nat → Bool) (Inv : Nat → World → Prop) (Fin : Nat → World → Prop) (hn : n ≤ maxLen) (h0 : Inv 0 w)
    (hk : ∀ k W, Inv k W → SI 2 W B A n xs)
    (hs : ∀ k u v W, xs[k]? = some [u, v] → Inv k W → Calls Tryz.prog 101 #[.agg #[u, v], .pointer (some ⟨V0, 0, none⟩)] W (Asked (q k) (Inv (k + 1)) (Fin k))) :
    Calls Tryz.prog 100 #[.slice A n c, .func (.func 101) #[] #[.pointer (some ⟨V0, 0, none⟩)]] w (HasIt n q Inv Fin) := by
  have hf := findClass_any w B A n c xs V0 q Inv Fin hn h0 hk hs
  clear hk hs h0 hn
  go_enter Tryz.func100, Tryz.ntmps100
  go_wp2_with fail
  refine hf.mono ?_
  intro e w2 h2
  rcases h2 with ⟨k, h1, h2, h3, rfl, h5⟩ | ⟨h1, rfl, h5⟩
  · have HH : Hid (HasIt n q Inv Fin (.returned (.bool true)) w2) := Lib.hid (.inl ⟨k, h1, h2, h3, rfl, h5⟩)
    clear h2 h3 h5
    go_wp2
    go_ret
    exact HH.out
  · have HH : Hid (HasIt n q Inv Fin (.returned (.bool false)) w2) := Lib.hid (.inr ⟨h1, rfl, h5⟩)
    clear h1 h5
    go_wp2
    go_ret
    exact HH.out

set_option maxRecDepth 100000 in
set_option maxHeartbeats 4000000 in
theorem findPlace_any (w : World) (B : Nat) (A : Option Addr) (n c : Nat) (xs : List (List Value)) (V0 : Nat) (q : Nat → Bool) (Inv : Nat → World → Prop) (Fin : Nat → World → Prop) (hn : n ≤ maxLen) (h0 : Inv 0 w)
    (hk : ∀ k W, Inv k W → SI 3 W B A n xs)
    (hs : ∀ k u v z W, xs[k]? = some [u, v, z] → Inv k W → Calls Tryz.prog 176 #[.agg #[u, v, z], .pointer (some ⟨V0, 0, none⟩)] W (Asked (q k) (Inv (k + 1)) (Fin k))) :
    Calls Tryz.prog 175 #[.slice A n c, .func (.func 176) #[] #[.pointer (some ⟨V0, 0, none⟩)]] w (FoundAt n q Inv Fin) := by
  unfold maxLen at hn
  have HK := Lib.hid hk
  have HS := Lib.hid hs
  have H0 := Lib.hid h0
  clear hk hs h0
  go_enter Tryz.func175, Tryz.ntmps175
  go_wp2
  go_loopw [8] (fun iv wr => ∃ k : Nat, k ≤ n ∧ iv = .int .i64 k ∧ Hid (Inv k wr) ∧ Hid (∀ j, j < k → q j = false)) (fun iv _ => n - (intOf iv).toNat)
  case atStart => exact ⟨0, Nat.zero_le _, rfl, H0, Lib.hid (fun j hj => absurd hj (by omega))⟩
  case round =>
    obtain ⟨k, hkn, rfl, HI, HQ⟩ := hrel
    by_cases hlt : k < n
    · obtain ⟨ad, u, v, z, rfl, hb, hx, c0, c1, c2⟩ := (HK.out k wr HI.out).at3 hlt
      have hc := HS.out k u v z wr hx HI.out
      clear hx
      cases hq : q k with
      | true =>
        rw [hq] at hc
        have HQK := Lib.hid hq
        clear hq
        go_wp2_with (go_at_call 176; refine hc.mono ?_; rintro e w2 ⟨rfl, -, hf⟩; have HF := Lib.hid (hf rfl); clear hf hc)
        go_ret
        exact .inl ⟨k, hlt, HQK.out, HQ.out, rfl, HF.out⟩
      | false =>
        rw [hq] at hc
        have HQK := Lib.hid hq
        clear hq
        go_wp2_with (go_at_call 176; refine hc.mono ?_; rintro e w2 ⟨rfl, hf, -⟩; have HF := Lib.hid (hf rfl); clear hf hc)
        go_roundw
        case rel => exact ⟨k + 1, by omega, by go_num, HF, Lib.hid (asked_step HQ.out HQK.out)⟩
        case measure => simp [intOf]; omega
    · obtain rfl : k = n := by omega
      go_wp2
      go_ret
      exact .inr ⟨HQ.out, rfl, HI.out⟩

set_option maxRecDepth 100000 in
set_option maxHeartbeats 4000000 in
theorem findAmong_any (w : World) (B : Nat) (A : Option Addr) (n c : Nat) (xs : List (List Value)) (V0 V1 : Nat) (q : Nat → Bool) (Inv : Nat → World → Prop) (Fin : Nat → World → Prop) (hn : n ≤ maxLen) (h0 : Inv 0 w)
    (hk : ∀ k W, Inv k W → SI 3 W B A n xs)
    (hs : ∀ k u v z W, xs[k]? = some [u, v, z] → Inv k W → Calls Tryz.prog 174 #[.agg #[u, v, z], .pointer (some ⟨V0, 0, none⟩), .pointer (some ⟨V1, 0, none⟩)] W (Asked (q k) (Inv (k + 1)) (Fin k))) :
    Calls Tryz.prog 175 #[.slice A n c, .func (.func 174) #[] #[.pointer (some ⟨V0, 0, none⟩), .pointer (some ⟨V1, 0, none⟩)]] w (FoundAt n q Inv Fin) := by
  unfold maxLen at hn
  have HK := Lib.hid hk
  have HS := Lib.hid hs
  have H0 := Lib.hid h0
  clear hk hs h0
  go_enter Tryz.func175, Tryz.ntmps175
  go_wp2
  go_loopw [8] (fun iv wr => ∃ k : Nat, k ≤ n ∧ iv = .int .i64 k ∧ Hid (Inv k wr) ∧ Hid (∀ j, j < k → q j = false)) (fun iv _ => n - (intOf iv).toNat)
  case atStart => exact ⟨0, Nat.zero_le _, rfl, H0, Lib.hid (fun j hj => absurd hj (by omega))⟩
  case round =>
    obtain ⟨k, hkn, rfl, HI, HQ⟩ := hrel
    by_cases hlt : k < n
    · obtain ⟨ad, u, v, z, rfl, hb, hx, c0, c1, c2⟩ := (HK.out k wr HI.out).at3 hlt
      have hc := HS.out k u v z wr hx HI.out
      clear hx
      cases hq : q k with
      | true =>
        rw [hq] at hc
        have HQK := Lib.hid hq
        clear hq
        go_wp2_with (go_at_call 174; refine hc.mono ?_; rintro e w2 ⟨rfl, -, hf⟩; have HF := Lib.hid (hf rfl); clear hf hc)
        go_ret
        exact .inl ⟨k, hlt, HQK.out, HQ.out, rfl, HF.out⟩
      | false =>
        rw [hq] at hc
        have HQK := Lib.hid hq
        clear hq
        go_wp2_with (go_at_call 174; refine hc.mono ?_; rintro e w2 ⟨rfl, hf, -⟩; have HF := Lib.hid (hf rfl); clear hf hc)
        go_roundw
        case rel => exact ⟨k + 1, by omega, by go_num, HF, Lib.hid (asked_step HQ.out HQK.out)⟩
        case measure => simp [intOf]; omega
    · obtain rfl : k = n := by omega
      go_wp2
      go_ret
      exact .inr ⟨HQ.out, rfl, HI.out⟩

set_option maxRecDepth 100000 in
set_option maxHeartbeats 4000000 in
theorem hasAmong_any (w : World) (B : Nat) (A : Option Addr) (n c : Nat) (xs : List (List Value)) (V0 V1 : Nat) (q : Nat → Bool) (Inv : Nat → World → Prop) (Fin : Nat → World → Prop) (hn : n ≤ maxLen) (h0 : Inv 0 w)
    (hk : ∀ k W, Inv k W → SI 3 W B A n xs)
    (hs : ∀ k u v z W, xs[k]? = some [u, v, z] → Inv k W → Calls Tryz.prog 174 #[.agg #[u, v, z], .pointer (some ⟨V0, 0, none⟩), .pointer (some ⟨V1, 0, none⟩)] W (Asked (q k) (Inv (k + 1)) (Fin k))) :
    Calls Tryz.prog 173 #[.slice A n c, .func (.func 174) #[] #[.pointer (some ⟨V0, 0, none⟩), .pointer (some ⟨V1, 0, none⟩)]] w (HasIt n q Inv Fin) := by
  have hf := findAmong_any w B A n c xs V0 V1 q Inv Fin hn h0 hk hs
  clear hk hs h0 hn
  go_enter Tryz.func173, Tryz.ntmps173
  go_wp2_with fail
  refine hf.mono ?_
  intro e w2 h2
  rcases h2 with ⟨k, h1, h2, h3, rfl, h5⟩ | ⟨h1, rfl, h5⟩
  · have HH : Hid (HasIt n q Inv Fin (.returned (.bool true)) w2) := Lib.hid (.inl ⟨k, h1, h2, h3, rfl, h5⟩)
    clear h2 h3 h5
    go_wp2
    go_ret
    exact HH.out
  · have HH : Hid (HasIt n q Inv Fin (.returned (.bool false)) w2) := Lib.hid (.inr ⟨h1, rfl, h5⟩)
    clear h1 h5
    go_wp2
    go_ret
    exact HH.out
end Go.Proofs.YthaibekbefndlaaGreatDoor.C

namespace Go.Proofs.YthaibekbefndlaaGreatDoor.C
open Go.RowKit

theorem flat_at {sz : Nat} : ∀ {xs : List (List Value)} {j i : Nat} {x : List Value} {u : Value}, (∀ x ∈ xs, x.length = sz) → xs[j]? = some x → x[i]? = some u → xs.flatten[j * sz + i]? = some u
  | [], j, i, x, u, _, hx, _ => by simp at hx
  | y :: r, 0, i, x, u, h, hx, hu => by
    simp at hx
    subst hx
    have hi : i < y.length := (List.getElem?_eq_some_iff.1 hu).1
    rw [List.flatten_cons, List.getElem?_append_left (by omega)]
    simpa using hu
  | y :: r, j + 1, i, x, u, h, hx, hu => by
    have hy := h y (by simp)
    rw [List.flatten_cons, List.getElem?_append_right (by rw [hy, Nat.succ_mul]; omega), hy]
    have := flat_at (xs := r) (j := j) (fun z hz => h z (List.mem_cons_of_mem _ hz)) (by simpa using hx) hu
    rw [show (j + 1) * sz + i - sz = j * sz + i by rw [Nat.succ_mul]; omega]
    exact this
theorem flat_len {sz : Nat} : ∀ {xs : List (List Value)}, (∀ x ∈ xs, x.length = sz) → xs.flatten.length = xs.length * sz
  | [], _ => by simp
  | y :: r, h => by
    rw [List.flatten_cons, List.length_append, flat_len (fun z hz => h z (by simp [hz])), h y (by simp), List.length_cons, Nat.succ_mul]
    omega
theorem SI.of_own {w : World} {base sz n c : Nat} {e : TypeId} {A : Option Addr} {xs : List (List Value)} (h : w.ownsRow base e sz (.slice A n c) n xs.flatten) (hl : xs.length = n) (hx : ∀ x ∈ xs, x.length = sz) : SI sz w w.heap.size A n xs := by
  refine ⟨hl, hx, fun hn => ?_⟩
  rcases h.2 with ⟨_, h0⟩ | ⟨g, cap, cur, he, _⟩
  · omega
  · injection he with he _ _
    subst he
    refine ⟨_, rfl, (h.lt g rfl).2, fun j x hj i u hu => ?_⟩
    exact h.cells rfl _ _ (flat_at hx hj hu)
/-- the cells of a row of elements -/
def ordR (o : List Elm) (vs : List Value) : List (List Value) := (o.zip vs).map fun x => [.string (str x.1.name), x.2, .int .i64 x.1.same]
theorem ordR_len {o : List Elm} {vs : List Value} (h : vs.length = o.length) : (ordR o vs).length = o.length := by simp [ordR, h]
theorem ordR_each {o : List Elm} {vs : List Value} : ∀ x ∈ ordR o vs, x.length = 3 := by
  intro x hx
  unfold ordR at hx
  rw [List.mem_map] at hx
  obtain ⟨y, _, rfl⟩ := hx
  rfl
theorem ordR_at {o : List Elm} {vs : List Value} {k : Nat} {x : List Value} (hk : (ordR o vs)[k]? = some x) : ∃ e v, o[k]? = some e ∧ vs[k]? = some v ∧ x = [.string (str e.name), v, .int .i64 e.same] := by
  unfold ordR at hk
  rw [List.getElem?_map] at hk
  cases hz : (o.zip vs)[k]? with
  | none => rw [hz] at hk; cases hk
  | some y =>
    rw [hz] at hk
    injection hk with hk
    obtain ⟨e, v⟩ := y
    rw [List.getElem?_zip_eq_some] at hz
    exact ⟨e, v, hz.1, hz.2, hk.symm⟩
theorem ordR_snoc {o : List Elm} {vs : List Value} (h : vs.length = o.length) (e : Elm) (v : Value) : ordR (o ++ [e]) (vs ++ [v]) = ordR o vs ++ [[.string (str e.name), v, .int .i64 e.same]] := by
  unfold ordR
  rw [List.zip_append h.symm]
  simp
/-- v is a row of these elements -/
def OrdAt (w : World) (lo : Nat) (v : Value) (o : List Elm) : Prop :=
  ∃ vs : List Value, vs.length = o.length ∧ w.ownsRow lo 34 3 v o.length (ordR o vs).flatten ∧ ∀ (i : Nat) (e : Elm) (x : Value), o[i]? = some e → vs[i]? = some x → w.ownsRow lo 35 1 x e.cells.length (celC e.cells)
theorem OrdAt.nil (w : World) (lo : Nat) : OrdAt w lo (.slice none 0 0) [] := ⟨[], rfl, ⟨rfl, .inl ⟨rfl, rfl⟩⟩, by simp⟩
theorem OrdAt.fr {w w' : World} {X : Nat → Prop} {lo : Nat} {v : Value} {o : List Elm} (h : OrdAt w lo v o) (hf : Fr w w' X) (hx : ∀ g c z t, X g → w.heap[g]? = some (.cells c t z) → t ≠ 35 ∧ t ≠ 34) : OrdAt w' lo v o := by
  obtain ⟨vs, h1, h2, h3⟩ := h
  refine ⟨vs, h1, ownsRow_fr h2 hf ?_, fun i e x he hv => ownsRow_fr (h3 i e x he hv) hf ?_⟩
  · intro g hg hX
    obtain ⟨c, hc⟩ := ownsRow_ty h2 hg
    exact (hx g _ _ _ hX hc).2 rfl
  · intro g hg hX
    obtain ⟨c, hc⟩ := ownsRow_ty (h3 i e x he hv) hg
    exact (hx g _ _ _ hX hc).1 rfl
theorem OrdAt.next {w w' : World} {lo : Nat} {v : Value} {o : List Elm} (h : OrdAt w lo v o) (hb : Below w.heap.size w w') : OrdAt w' lo v o := h.fr (X := fun _ => False) (.of_below hb) (by rintro _ _ _ _ ⟨⟩)
theorem OrdAt.drew {w : World} {lo : Nat} {v : Value} {o : List Elm} (h : OrdAt w lo v o) : OrdAt w.drew lo v o := h
theorem OrdAt.frR {w w' : World} {R k : Nat} {T : TV} {v1 v2 v3 v4 v5 : Value} {lo : Nat} {v : Value} {o : List Elm} (h : OrdAt w lo v o) (hc : CU w R T k v1 v2 v3 v4 v5) (hf : Fr w w' (· = R)) : OrdAt w' lo v o := by
  refine h.fr hf ?_
  rintro g c z t rfl hg
  rw [hc.1] at hg
  simp at hg
  obtain ⟨-, rfl, -⟩ := hg
  decide
theorem OrdAt.form {w : World} {lo : Nat} {v : Value} {o : List Elm} (h : OrdAt w lo v o) : ∃ A c, v = .slice A o.length c := by
  obtain ⟨vs, h1, h2, _⟩ := h
  rcases Joins.ownsRow_forms h2 with ⟨rfl, h0⟩ | ⟨g, c, rfl⟩
  · exact ⟨none, 0, by rw [h0]⟩
  · exact ⟨_, _, rfl⟩
theorem cells_form {w : World} {lo n : Nat} {v : Value} {xs : List Value} {e : TypeId} (h : w.ownsRow lo e 1 v n xs) : ∃ A c, v = .slice A n c := by
  rcases Joins.ownsRow_forms h with ⟨rfl, h0⟩ | ⟨g, c, rfl⟩
  · exact ⟨none, 0, by rw [h0]⟩
  · exact ⟨_, _, rfl⟩

set_option maxRecDepth 100000 in
set_option maxHeartbeats 2000000 in
theorem placeOf1_any (W : World) (s : ByteArray) (z : Int) (Ax Ay : Option Addr) (n cx m cy V0 : Nat) (xs ys : List Int) (hx : RI .i32 W W.heap.size Ax n xs) (hy : RI .i32 W W.heap.size Ay m ys) (hV : One W V0 32 (.slice Ay m cy)) (hn : n ≤ 9223372036854775807) :
    Calls Tryz.prog 176 #[.agg #[.string s, .slice Ax n cx, .int .i64 z], .pointer (some ⟨V0, 0, none⟩)] W fun e w' => e = .returned (.bool (sameB xs ys)) ∧ Below W.heap.size W w' := by
  have hb : Below W.heap.size W (W.alloc (.cells #[.string s, .slice Ax n cx, .int .i64 z] 34)) := (Below.refl _ _).alloc (Nat.le_refl _) _
  have heq := equal_any (W.alloc (.cells #[.string s, .slice Ax n cx, .int .i64 z] 34)) _ _ Ax Ay n cx m cy xs ys (hx.keep fun p hp => hb.cell hp) (hy.keep fun p hp => hb.cell hp) hn
  have q0 := hV.cell
  have q1 := (hV.alloc (.cells #[.string s, .slice Ax n cx, .int .i64 z] 34)).cell
  have hl := hV.lt
  have HB := Lib.hid hb
  clear hx hy hV hb
  go_enter Tryz.func176, Tryz.ntmps176
  go_wp2_with (go_at_call 177; refine heq.mono ?_; rintro e w2 ⟨rfl, q, rfl⟩)
  go_ret
  exact ⟨rfl, HB.out.trans ⟨rfl, rfl, rfl, Nat.le_refl _, fun _ _ => rfl⟩⟩

def placeV (o : List Elm) (c : List Int) : Int := match placeL o c with | some i => (i : Int) | none => -1
theorem placeL_found {o : List Elm} {c : List Int} {k : Nat} (hk : k < o.length) (hq : (fun j => match o[j]? with | some e => sameB e.cells c | none => false) k = true) (hm : ∀ j, j < k → (fun j => match o[j]? with | some e => sameB e.cells c | none => false) j = false) : placeL o c = some k := by
  unfold placeL
  rw [List.findIdx?_eq_some_iff_getElem]
  refine ⟨hk, ?_, fun j hj => ?_⟩
  · simp only [List.getElem?_eq_getElem hk] at hq
    simpa [sameB] using hq
  · have := hm j hj
    simp only [List.getElem?_eq_getElem (Nat.lt_trans hj hk)] at this
    simpa [sameB] using this
theorem placeL_none {o : List Elm} {c : List Int} (hm : ∀ j, j < o.length → (fun j => match o[j]? with | some e => sameB e.cells c | none => false) j = false) : placeL o c = none := by
  unfold placeL
  rw [List.findIdx?_eq_none_iff]
  intro e he
  obtain ⟨i, hi⟩ := List.getElem?_of_mem he
  have hl : i < o.length := (List.getElem?_eq_some_iff.1 hi).1
  have := hm i hl
  simp only [hi] at this
  simpa [sameB] using this

set_option maxRecDepth 100000 in
set_option maxHeartbeats 2000000 in
theorem placeOf_any (w : World) (lo R : Nat) (T : TV) (k : Nat) (v1 v2 v3 v4 v5 v : Value) (o : List Elm) (c : List Int) (h : CU w R T k v1 v2 v3 v4 v5) (ho : OrdAt w lo v4 o) (hv : w.ownsRow lo 35 1 v c.length (celC c)) (hn : o.length ≤ 2000) :
    Calls Tryz.prog 134 #[.pointer (some ⟨R, 0, none⟩), v] w fun e w' => e = .returned (.int .i64 (placeV o c)) ∧ Below w.heap.size w w' := by
  obtain ⟨A, cap, rfl⟩ := ho.form
  obtain ⟨Av, cv, rfl⟩ := cells_form hv
  obtain ⟨W, hW⟩ : ∃ W, W = w.alloc (.cells #[.slice Av c.length cv] 32) := ⟨_, rfl⟩
  have hb : Below w.heap.size w W := by rw [hW]; exact (Below.refl _ _).alloc (Nat.le_refl _) _
  have hone : One W w.heap.size 32 (.slice Av c.length cv) := by rw [hW]; exact heap_alloc_new w _
  have hoW := ho.next hb
  obtain ⟨vs, h1, h2, h3⟩ := hoW
  have hys : RI .i32 W W.heap.size Av c.length c := by rw [hW]; exact RI.of_own (hv.alloc _)
  have hfind := findPlace_any W W.heap.size A o.length cap (ordR o vs) w.heap.size (fun j => match o[j]? with | some e => sameB e.cells c | none => false) (fun _ w' => Below W.heap.size W w') (fun _ w' => Below W.heap.size W w') (by unfold maxLen; omega) (Below.refl _ _)
    (fun k w' hw => (SI.of_own h2 (ordR_len h1) ordR_each).on hw (Nat.le_refl _))
    (fun k a b z w' hx hw => by
      obtain ⟨e, x, he, hvx, hxe⟩ := ordR_at hx
      simp at hxe
      obtain ⟨rfl, rfl, rfl⟩ := hxe
      have hc := h3 k e b he hvx
      obtain ⟨Ax, cx, rfl⟩ := cells_form hc
      have hxs : RI .i32 W W.heap.size Ax e.cells.length e.cells := RI.of_own hc
      have hl := hw.size
      have hcap : e.cells.length ≤ 9223372036854775807 := by
        rcases hc.2 with ⟨_, h0⟩ | ⟨_, _, _, _, _, _, h5, h6, _⟩
        · omega
        · unfold maxLen at h6; omega
      refine (placeOf1_any w' (str e.name) e.same Ax Av e.cells.length cx c.length cv w.heap.size e.cells c ((hxs.keep fun p hp => hw.cell hp).more hl) ((hys.keep fun p hp => hw.cell hp).more hl) ((hw.block _ hone.lt).trans hone) hcap).mono ?_
      rintro e2 w2 ⟨rfl, hb2⟩
      have hw2 : Below W.heap.size W w2 := hw.trans ⟨hb2.os, hb2.tape, hb2.output, hb2.size, fun i hi => hb2.block i (by omega)⟩
      simp only [he]
      exact ⟨rfl, fun _ => hw2, fun _ => hw2⟩)
  have q0 := h.more.2.2.2.1
  have q1 : W.cell? ⟨R, 5, none⟩ = some (.slice A o.length cap) := (h.next hb).more.2.2.2.1
  have hR := h.lt
  have hmf : ∀ (fn : Fn) (first cap : Array Value) (w : World), (Instr.makeFunc fn first cap).run Tryz.prog w = .ok (.func fn first cap) w := fun _ _ _ _ => rfl
  have HB := Lib.hid hb
  rw [hW] at q1
  clear h ho hv hb hone h1 h2 h3 hys
  go_enter Tryz.func134, Tryz.ntmps134
  go_wp2_with fail
  rw [← hW]
  clear hW q1
  refine hfind.mono ?_
  have hbb : ∀ w2, Below W.heap.size W w2 → Below w.heap.size w w2 := fun w2 h2 => HB.out.trans ⟨h2.os, h2.tape, h2.output, h2.size, fun i hi => h2.block i (by have := HB.out.size; omega)⟩
  rintro e w2 (⟨j, hj, hq, hm, rfl, hb2⟩ | ⟨hm, rfl, hb2⟩)
  · have hp : placeV o c = j := by unfold placeV; rw [placeL_found hj hq hm]
    go_wp2
    go_ret
    rw [hp]
    exact ⟨rfl, hbb _ hb2⟩
  · have hp : placeV o c = -1 := by unfold placeV; rw [placeL_none hm]
    go_wp2
    go_ret
    rw [hp]
    exact ⟨rfl, hbb _ hb2⟩
end Go.Proofs.YthaibekbefndlaaGreatDoor.C

namespace Go.Proofs.YthaibekbefndlaaGreatDoor.C
open Go.RowKit

theorem own_one (W : World) (lo : Nat) (c : Int) (g : Nat) (hg : W.heap.size = g) (hlo : lo ≤ W.heap.size) : (W.alloc (.cells #[.int .i32 c] 35)).ownsRow lo 35 1 (.slice (some ⟨g, 0, none⟩) 1 1) 1 (celC [c]) := by
  subst hg
  exact ⟨rfl, .inr ⟨_, 1, #[.int .i32 c], rfl, hlo, heap_alloc_new W _, Nat.le_refl _, by unfold maxLen; omega, rfl, rfl⟩⟩
/-- what cellsOf answers -/
def CoTold (w : World) (lo : Nat) : Except Er (List Int) → Ending → World → Prop
  | .ok c, e, w' => (∃ v, e = .returned v ∧ w'.ownsRow lo 35 1 v c.length (celC c)) ∧ Below w.heap.size w w'
  | .error er, e, w' => e = .panicked (faultV er.1 er.2) ∧ Below w.heap.size w w'
set_option maxRecDepth 100000 in
set_option maxHeartbeats 4000000 in
theorem cellsOf_any (w : World) (lo R : Nat) (T : TV) (k : Nat) (v1 v2 v3 v4 : Value) (M : Nat) (d : List (List UInt8 × List Int)) (x : Tok) (h : CU w R T k v1 v2 v3 v4 (.map (some M))) (hd : DeAt w lo M d) (hx : x.n ≤ 1114111) (hlw : lo ≤ w.heap.size) :
    Calls Tryz.prog 133 #[.pointer (some ⟨R, 0, none⟩), tkV x] w (CoTold w lo (itemL d x)) := by
  obtain ⟨xk, xt, xn, xa⟩ := x
  simp only at hx
  have hR := h.lt
  obtain ⟨X, hX⟩ : ∃ X, X = itemL d ⟨xk, xt, xn, xa⟩ := ⟨_, rfl⟩
  rw [← hX]
  unfold itemL at hX
  simp only at hX
  obtain ⟨W1, hW1⟩ : ∃ W1, W1 = w.alloc (.cells #[.int .u8 xk, .string (str xt), .int .i64 xn, .int .i64 xa] 92) := ⟨_, rfl⟩
  have hb1 : Below w.heap.size w W1 := by rw [hW1]; exact (Below.refl _ _).alloc (Nat.le_refl _) _
  have hs1 : W1.heap.size = w.heap.size + 1 := by rw [hW1]; simp
  by_cases hk : xk = 3
  · subst hk
    rw [if_pos rfl] at hX
    subst hX
    have n0 : (0 : Int) ≤ (xn : Int) := by omega
    have n1 : (xn : Int) ≤ 1114111 := by omega
    have e1 : IntKind.i32.wrap (xn : Int) = (xn : Int) := wrap32 n0 n1
    have hown := own_one W1 lo xn (w.heap.size + 1) hs1 (by omega)
    have hb2 : Below w.heap.size w (W1.alloc (.cells #[.int .i32 xn] 35)) := hb1.trans ((Below.refl _ _).alloc (by omega) _)
    have HO := Lib.hid hown
    have HB := Lib.hid hb2
    rw [hW1] at HO HB
    clear h hd hb1 hs1 hW1 hown hb2
    unfold tkV
    go_enter Tryz.func133, Tryz.ntmps133
    go_wp2
    go_ret
    exact ⟨⟨_, rfl, HO.out⟩, HB.out⟩
  · rw [if_neg hk] at hX
    have hk' : ¬ (xk : Int) = 3 := by omega
    have hc1 := (h.next hb1)
    have ht1 : LTk W1 w.heap.size ⟨xk, xt, xn, xa⟩ := by rw [hW1]; exact LTk.new w ⟨xk, xt, xn, xa⟩
    have HC1 := Lib.hid hc1
    have HT1 := Lib.hid ht1
    have hde := (hd.next hb1).drew
    have HB := Lib.hid hb1
    cases hl : lookD d xt with
    | some c =>
      rw [hl] at hX
      simp only at hX
      subst hX
      obtain ⟨v, hv, hlk⟩ := hde.yes hl
      have HV := Lib.hid hv
      clear h hd hb1 hc1 ht1 hde hl hk hv
      unfold tkV
      go_enter Tryz.func133, Tryz.ntmps133
      go_wp2
      rw [← hW1]
      have q1 := HC1.out.drew.more.2.2.2.2
      obtain ⟨t0, t1, t2, t3⟩ := HT1.out.drew.cells
      clear hW1
      go_region_held3 (fun w' => w'.cell? ⟨R, 6, none⟩ = some (.map (some M)) ∧ w'.cell? ⟨w.heap.size, 1, none⟩ = some (.string (str xt))) (go_keep) (fail)
      go_wp2
      go_ret
      exact ⟨⟨v, rfl, HV.out⟩, HB.out.trans ⟨rfl, rfl, rfl, Nat.le_refl _, fun _ _ => rfl⟩⟩
    | none =>
      rw [hl] at hX
      simp only at hX
      subst hX
      have hlk := hde.no hl
      have hrf := fun W => refuse_any 31 ⟨xk, xt, xn, xa⟩ W
      unfold tkV at hrf
      clear h hd hb1 hc1 ht1 hde hl hk
      unfold tkV
      go_enter Tryz.func133, Tryz.ntmps133
      go_wp2
      rw [← hW1]
      have q1 := HC1.out.drew.more.2.2.2.2
      obtain ⟨t0, t1, t2, t3⟩ := HT1.out.drew.cells
      clear hW1
      go_region_held3 (fun w' => w'.cell? ⟨R, 6, none⟩ = some (.map (some M)) ∧ w'.cell? ⟨w.heap.size, 1, none⟩ = some (.string (str xt))) (go_keep) (fail)
      go_wp2_with fail
      refine (hrf _).mono ?_
      rintro e w2 ⟨rfl, hb2⟩
      exact ⟨rfl, rfl, HB.out.trans ⟨hb2.os, hb2.tape, hb2.output, hb2.size, fun i hi => hb2.block i (by show i < W1.heap.size; omega)⟩⟩
end Go.Proofs.YthaibekbefndlaaGreatDoor.C
