/-
  Joined: LdA, LdC, LdE, LdO, MCellI, MCellJ, MUtfM, MUtfG, LeH, KpA. Each with what its own head says.
-/
import Derived.WideLaws
import Derived.Laws.ResultCell
import Derived.Deep.DeepCutAuto
import Derived.Deep.CutBlock
import Derived.Test.YthgiikhkcpbpfaaGreatDoorB06
import Derived.Test.YthgiikhkcpbpfaaGreatDoorB04
import Derived.Test.YthgiikhkcpbpfaaGreatDoorB05


namespace Go.Proofs.YthgiikhkcpbpfaaGreatDoor.C
open Go.RowKit
def celC (c : List Int) : List Value := c.map (Value.int .i32)
def DeAt (w : World) (lo M : Nat) (d : List (List UInt8 × List Int)) : Prop :=
 ∃ vs : List Value, vs.length = d.length ∧ MapIs w M .string ((d.zip vs).map fun x => (.string (str x.1.1), x.2)) ∧ ∀ (i : Nat) (e : List UInt8 × List Int) (x : Value), d[i]? = some e → vs[i]? = some x → w.ownsRow lo 30 1 x e.2.length (celC e.2)
theorem DeAt.map {w : World} {lo M : Nat} {d : List (List UInt8 × List Int)} (h : DeAt w lo M d) : ∃ l, MapIs w M .string l := by
 obtain ⟨vs, _, h2, _⟩ := h
 exact ⟨_, h2⟩
theorem DeAt.fr {w w' : World} {X : Nat → Prop} {lo M : Nat} {d : List (List UInt8 × List Int)} (h : DeAt w lo M d) (hf : Fr w w' X) (hM : ¬ X M) (hx : ∀ g c z t, X g → w.heap[g]? = some (.cells c t z) → t ≠ 30) : DeAt w' lo M d := by
 obtain ⟨vs, h1, h2, h3⟩ := h
 refine ⟨vs, h1, h2.fr hf hM, fun i e x he hv => ownsRow_fr (h3 i e x he hv) hf ?_⟩
 intro g hg hX
 obtain ⟨c, hc⟩ := ownsRow_ty (h3 i e x he hv) hg
 exact hx g _ _ _ hX hc rfl
theorem DeAt.next {w w' : World} {lo M : Nat} {d : List (List UInt8 × List Int)} (h : DeAt w lo M d) (hb : Below w.heap.size w w') : DeAt w' lo M d := h.fr (X := fun _ => False) (.of_below hb) id (by rintro _ _ _ _ ⟨⟩)
theorem DeAt.drew {w : World} {lo M : Nat} {d : List (List UInt8 × List Int)} (h : DeAt w lo M d) : DeAt w.drew lo M d := h
theorem lookD_none {d : List (List UInt8 × List Int)} {n : List UInt8} (h : lookD d n = none) : ∀ e ∈ d, e.1 ≠ n := by
 unfold lookD at h
 rw [Option.map_eq_none_iff, List.find?_eq_none] at h
 intro e he hn
 exact h e he (by simpa using hn)
theorem zeroCells (w : World) : (zeroValue 39).run Tryz.prog w = .ok (.slice none 0 0) w := by kernel_rfl
theorem DeAt.keys {d : List (List UInt8 × List Int)} {vs : List Value} {n : List UInt8} (hl : lookD d n = none) : (.string (str n)) ∉ ((d.zip vs).map fun x => (Value.string (str x.1.1), x.2)).map Prod.fst := by
 rw [List.map_map, List.mem_map]
 rintro ⟨⟨e, x⟩, hx, he⟩
 simp at he
 exact lookD_none hl e (List.of_mem_zip hx).1 (str_inj he)
theorem DeAt.no {w : World} {lo M : Nat} {d : List (List UInt8 × List Int)} {n : List UInt8} (h : DeAt w lo M d) (hl : lookD d n = none) :
  (Instr.lookup 104 (.map (some M)) (.string (str n)) true).run Tryz.prog w = .ok (.tuple #[.slice none 0 0, .bool false]) w := by
 obtain ⟨vs, h1, h2, h3⟩ := h
 exact h2.look_no Tryz.underlying104 Tryz.underlying9 (by first | trivial | rfl) (DeAt.keys hl) (zeroCells w) true
theorem DeAt.put {w : World} {lo M : Nat} {d : List (List UInt8 × List Int)} {n : List UInt8} {c : List Int} {v : Value} (h : DeAt w lo M d) (hl : lookD d n = none) (hv : w.ownsRow lo 30 1 v c.length (celC c)) :
  ∃ o, (Instr.mapUpdate 104 (.map (some M)) (.string (str n)) v).run Tryz.prog w = .ok () (putObj w M o) ∧ DeAt (putObj w M o) lo M (d ++ [(n, c)]) := by
 obtain ⟨vs, h1, h2, h3⟩ := h
 obtain ⟨o, q2, hM⟩ := h2.put_new Tryz.underlying104 Tryz.underlying9 (key := (.string (str n))) (by first | trivial | rfl) (DeAt.keys hl) v
 have hg := putObj_only (w := w) (M := M) o
 refine ⟨o, q2, vs ++ [v], by simp [h1], ?_, ?_⟩
 ·rw [List.zip_append h1.symm, List.map_append]
  exact hM
 ·have key : ∀ {n : Nat} {u : Value} {xs : List Value}, w.ownsRow lo 30 1 u n xs → (putObj w M o).ownsRow lo 30 1 u n xs := fun hu => hu.kept hg (.inr (row_nomap hu h2))
  intro i e y hd hy
  rcases Nat.lt_or_ge i d.length with hi | hi
  ·rw [List.getElem?_append_left hi] at hd
   rw [List.getElem?_append_left (by omega)] at hy
   exact key (h3 i e y hd hy)
  ·rw [List.getElem?_append_right hi] at hd
   rw [List.getElem?_append_right (by omega), h1] at hy
   have e0 : i - d.length = 0 := by
    rcases hq : i - d.length with _ | q
    ·rfl
    ·rw [hq] at hd
     simp at hd
   rw [e0] at hd hy
   simp at hd hy
   subst hd hy
   exact key hv
section
variable {d : List (List UInt8 × List Int)} {n x : Tok} {r : List Tok}
end
def TxtOk (T : TV) : Prop := ∀ t ∈ T.ts, t.t.length ≤ 4000
theorem TxtOk.at_ {T : TV} (h : TxtOk T) {k : Nat} {x : Tok} {r : List Tok} (hr : T.ts.drop k = x :: r) : x.t.length ≤ 4000 := h x (List.mem_of_mem_drop (i := k) (by rw [hr]; simp))
end Go.Proofs.YthgiikhkcpbpfaaGreatDoor.C


namespace Go.Proofs.YthgiikhkcpbpfaaGreatDoor.C
open Go.RowKit
theorem flat_at {sz : Nat} : ∀ {xs : List (List Value)} {j i : Nat} {x : List Value} {u : Value}, (∀ x ∈ xs, x.length = sz) → xs[j]? = some x → x[i]? = some u → xs.flatten[j * sz + i]? = some u
 | [], j, i, x, u, _, hx, _ => by simp at hx
 | y :: r, 0, i, x, u, h, hx, hu => by
  simp at hx
  subst hx
  have hi : i < y.length := (List.getElem?_eq_some_iff.1 hu).1
  rw [List.flatten_cons, List.getElem?_append_left (by omega)]
  simpa using hu
 | y :: r, j + 1, i, x, u, h, hx, hu => by
  have hy := h y (by simp)
  rw [List.flatten_cons, List.getElem?_append_right (by rw [hy, Nat.succ_mul]; omega), hy]
  have := flat_at (xs := r) (j := j) (fun z hz => h z (List.mem_cons_of_mem _ hz)) (by simpa using hx) hu
  rw [show (j + 1) * sz + i - sz = j * sz + i by rw [Nat.succ_mul]; omega]
  exact this
theorem SI.of_own {w : World} {base sz n c : Nat} {e : TypeId} {A : Option Addr} {xs : List (List Value)} (h : w.ownsRow base e sz (.slice A n c) n xs.flatten) (hl : xs.length = n) (hx : ∀ x ∈ xs, x.length = sz) : SI sz w w.heap.size A n xs := by
 refine ⟨hl, hx, fun hn => ?_⟩
 rcases h.2 with ⟨_, h0⟩ | ⟨g, cap, cur, he, _⟩
 ·omega
 ·injection he with he _ _
  subst he
  refine ⟨_, rfl, (h.lt g rfl).2, fun j x hj i u hu => ?_⟩
  exact h.cells rfl _ _ (flat_at hx hj hu)
def ordR (o : List Elm) (vs : List Value) : List (List Value) := (o.zip vs).map fun x => [.string (str x.1.name), x.2, .int .i64 x.1.same]
theorem ordR_len {o : List Elm} {vs : List Value} (h : vs.length = o.length) : (ordR o vs).length = o.length := by simp [ordR, h]
theorem ordR_each {o : List Elm} {vs : List Value} : ∀ x ∈ ordR o vs, x.length = 3 := by
 intro x hx
 unfold ordR at hx
 rw [List.mem_map] at hx
 obtain ⟨y, _, rfl⟩ := hx
 rfl
theorem ordR_snoc {o : List Elm} {vs : List Value} (h : vs.length = o.length) (e : Elm) (v : Value) : ordR (o ++ [e]) (vs ++ [v]) = ordR o vs ++ [[.string (str e.name), v, .int .i64 e.same]] := by
 unfold ordR
 rw [List.zip_append h.symm]
 simp
def OrdAt (w : World) (lo : Nat) (v : Value) (o : List Elm) : Prop :=
 ∃ vs : List Value, vs.length = o.length ∧ w.ownsRow lo 83 3 v o.length (ordR o vs).flatten ∧ ∀ (i : Nat) (e : Elm) (x : Value), o[i]? = some e → vs[i]? = some x → w.ownsRow lo 30 1 x e.cells.length (celC e.cells)
theorem OrdAt.nil (w : World) (lo : Nat) : OrdAt w lo (.slice none 0 0) [] := ⟨[], rfl, ⟨rfl, .inl ⟨rfl, rfl⟩⟩, by simp⟩
theorem OrdAt.fr {w w' : World} {X : Nat → Prop} {lo : Nat} {v : Value} {o : List Elm} (h : OrdAt w lo v o) (hf : Fr w w' X) (hx : ∀ g c z t, X g → w.heap[g]? = some (.cells c t z) → t ≠ 30 ∧ t ≠ 83) : OrdAt w' lo v o := by
 obtain ⟨vs, h1, h2, h3⟩ := h
 refine ⟨vs, h1, ownsRow_fr h2 hf ?_, fun i e x he hv => ownsRow_fr (h3 i e x he hv) hf ?_⟩
 ·intro g hg hX
  obtain ⟨c, hc⟩ := ownsRow_ty h2 hg
  exact (hx g _ _ _ hX hc).2 rfl
 ·intro g hg hX
  obtain ⟨c, hc⟩ := ownsRow_ty (h3 i e x he hv) hg
  exact (hx g _ _ _ hX hc).1 rfl
theorem OrdAt.next {w w' : World} {lo : Nat} {v : Value} {o : List Elm} (h : OrdAt w lo v o) (hb : Below w.heap.size w w') : OrdAt w' lo v o := h.fr (X := fun _ => False) (.of_below hb) (by rintro _ _ _ _ ⟨⟩)
theorem OrdAt.drew {w : World} {lo : Nat} {v : Value} {o : List Elm} (h : OrdAt w lo v o) : OrdAt w.drew lo v o := h
theorem OrdAt.form {w : World} {lo : Nat} {v : Value} {o : List Elm} (h : OrdAt w lo v o) : ∃ A c, v = .slice A o.length c := by
 obtain ⟨vs, h1, h2, _⟩ := h
 rcases Joins.ownsRow_forms h2 with ⟨rfl, h0⟩ | ⟨g, c, rfl⟩
 ·exact ⟨none, 0, by rw [h0]⟩
 ·exact ⟨_, _, rfl⟩
def placeV (o : List Elm) (c : List Int) : Int := match placeL o c with | some i => (i : Int) | none => -1
theorem placeL_found {o : List Elm} {c : List Int} {k : Nat} (hk : k < o.length) (hq : (fun j => match o[j]? with | some e => sameB e.cells c | none => false) k = true) (hm : ∀ j, j < k → (fun j => match o[j]? with | some e => sameB e.cells c | none => false) j = false) : placeL o c = some k := by
 unfold placeL
 rw [List.findIdx?_eq_some_iff_getElem]
 refine ⟨hk, ?_, fun j hj => ?_⟩
 ·simp only [List.getElem?_eq_getElem hk] at hq
  simpa [sameB] using hq
 ·have := hm j hj
  simp only [List.getElem?_eq_getElem (Nat.lt_trans hj hk)] at this
  simpa [sameB] using this
theorem placeL_none {o : List Elm} {c : List Int} (hm : ∀ j, j < o.length → (fun j => match o[j]? with | some e => sameB e.cells c | none => false) j = false) : placeL o c = none := by
 unfold placeL
 rw [List.findIdx?_eq_none_iff]
 intro e he
 obtain ⟨i, hi⟩ := List.getElem?_of_mem he
 have hl : i < o.length := (List.getElem?_eq_some_iff.1 hi).1
 have := hm i hl
 simp only [hi] at this
 simpa [sameB] using this
end Go.Proofs.YthgiikhkcpbpfaaGreatDoor.C


namespace Go.Proofs.YthgiikhkcpbpfaaGreatDoor.C
open Go.RowKit
theorem trip_new (w : World) (k : Nat) (a b c : Value) (t : TypeId) (hk : w.heap.size = k) : ∀ j u, [a, b, c][j]? = some u → (w.alloc (.cells #[a, b, c] t)).cell? ((⟨k, 0, none⟩ : Addr).add j) = some u := by
 subst hk
 intro j u hu
 rw [add_plain, Nat.zero_add, World.cell?_alloc_new]
 simpa using hu
theorem infoElem : (Tryz.prog.info? 83).map (fun i => (i.zero, i.size, i.bytes)) = some (some (.agg #[.string (str []), .slice none 0 0, .int .i64 0]), 3, 48) := by kernel_rfl
theorem OrdAt.snoc {w w' : World} {lo g cap : Nat} {v x : Value} {o : List Elm} {vs : List Value} (c : Elm) (h1 : vs.length = o.length) (h2 : w.ownsRow lo 83 3 v o.length (ordR o vs).flatten) (h3 : ∀ (i : Nat) (e : Elm) (x : Value), o[i]? = some e → vs[i]? = some x → w.ownsRow lo 30 1 x e.cells.length (celC e.cells))
  (hx : w.ownsRow lo 30 1 x c.cells.length (celC c.cells))
  (hg : w.grownBy w' v.ownBlock) (ho : w'.ownsRow lo 83 3 (.slice (some ⟨g, 0, none⟩) (o.length + 1) cap) (o.length + 1) ((ordR o vs).flatten ++ [.string (str c.name), x, .int .i64 c.same])) :
  OrdAt w' lo (.slice (some ⟨g, 0, none⟩) (o.length + 1) cap) (o ++ [c]) := by
 have key : ∀ {n : Nat} {u : Value} {xs : List Value}, w.ownsRow lo 30 1 u n xs → w'.ownsRow lo 30 1 u n xs := fun hu => hu.kept hg (by
  rcases hb : (Value.ownBlock _) with _ | g1
  ·exact .inl rfl
  ·refine .inr fun e => ?_
   obtain ⟨c1, hc1⟩ := ownsRow_ty hu hb
   obtain ⟨c2, hc2⟩ := ownsRow_ty h2 e.symm
   rw [hc1] at hc2
   injection hc2 with hc2
   injection hc2 with _ hc2
   cases hc2)
 refine ⟨vs ++ [x], by simp [h1], by rw [ordR_snoc h1, List.length_append, List.flatten_append]; simpa using ho, ?_⟩
 intro i d y hd hy
 rcases Nat.lt_or_ge i o.length with hi | hi
 ·rw [List.getElem?_append_left hi] at hd
  rw [List.getElem?_append_left (by omega)] at hy
  exact key (h3 i d y hd hy)
 ·rw [List.getElem?_append_right hi] at hd
  rw [List.getElem?_append_right (by omega), h1] at hy
  have e0 : i - o.length = 0 := by
   rcases hq : i - o.length with _ | q
   ·rfl
   ·rw [hq] at hd
    simp at hd
  rw [e0] at hd hy
  simp at hd hy
  subst hd hy
  exact key hx
end Go.Proofs.YthgiikhkcpbpfaaGreatDoor.C


namespace Go.Proofs.YthgiikhkcpbpfaaGreatDoor.C
open Go.RowKit
def LocAt (w : World) (lo : Nat) (v1 v2 v3 v4 : Value) (l : Loc) : Prop := ClsAt w lo v1 l.cls ∧ w.ownsRow lo 81 2 v2 l.up.length (prsC l.up) ∧ w.ownsRow lo 81 2 v3 l.lo.length (prsC l.lo) ∧ OrdAt w lo v4 l.ord
theorem LocAt.nil (w : World) (lo : Nat) : LocAt w lo (.slice none 0 0) (.slice none 0 0) (.slice none 0 0) (.slice none 0 0) noL := ⟨ClsAt.nil w lo, World.ownsRow_nil _ _ _ _, World.ownsRow_nil _ _ _ _, OrdAt.nil w lo⟩
end Go.Proofs.YthgiikhkcpbpfaaGreatDoor.C


namespace Go.Proofs.YthgiikhkcpbpfaaGreatDoor.C
open Go.RowKit
set_option maxRecDepth 100000 in
set_option maxHeartbeats 2000000 in
theorem shown_wrong (w : World) (B : Nat) (v : Value) (n : Nat) (xs : List UInt8) (c : Int) (hno : ¬ (-256 ≤ c ∧ c < 55296 ∨ 57343 < c ∧ c ≤ 1114111)) (hB : B ≤ w.heap.size) (hown : w.ownsRow B 5 1 v n (Lib.byteCells xs)) (hn : n ≤ 1099511627000) :
  Calls Tryz.prog 140 #[v, .int .i32 c] w fun e w' => ∃ v', e = .returned v' ∧ Grew B w (n + (shown c).length) (xs ++ shown c) v' w' := by
 obtain ⟨i0, hi, hz0, hz1, hz2⟩ := info_parts info5
 have hsh : shown c = [92, 63] := by
  unfold shown
  rw [if_neg (by omega), if_pos hno]
 rw [hsh]
 have HO := Lib.hid hown
 clear hown hsh
 have hr : rightB c = false := by simp [rightB]; omega
 have HR := Lib.hid hr
 clear hr
 go_enter Tryz.func140, Tryz.ntmps140
 go_wp2_with fail
 refine (byte_no c w (by omega)).mono ?_
 rintro e w' ⟨rfl, rfl⟩
 go_wp2_with fail
 refine (right_any _ _).mono ?_
 rintro e w' ⟨rfl, rfl⟩
 rw [HR.out]
 go_wp2_with (at_builtin; (refine Lib.wpList_append_own_string _ rfl _ _ 44 9 rfl B 5 i0 Tryz.underlying44 Tryz.underlying9 hi hz0 hz1 hz2 _ _ _ rfl HO.out _ rfl (by unfold maxLen; show n + 2 ≤ _; omega) (by show n + 2 ≤ _; omega) hB ?_); intro v' w3 hown' hgrow _)
 go_ret
 exact ⟨v', rfl, by rw [Lib.byteCells_append]; exact hown', (Below.refl _ _).grown hgrow hB (fun k hk => (HO.out.lt k hk).1)⟩
set_option maxRecDepth 100000 in
set_option maxHeartbeats 2000000 in
theorem shown_92 (w : World) (B : Nat) (v : Value) (n : Nat) (xs : List UInt8) (c : Int) (hc : c = 92) (hB : B ≤ w.heap.size) (hown : w.ownsRow B 5 1 v n (Lib.byteCells xs)) (hn : n ≤ 1099511627000) :
  Calls Tryz.prog 140 #[v, .int .i32 c] w fun e w' => ∃ v', e = .returned v' ∧ Grew B w (n + (shown c).length) (xs ++ shown c) v' w' := by
 obtain ⟨i0, hi, hz0, hz1, hz2⟩ := info_parts info5
 have hsh : shown c = [92, 92] := by
  unfold shown
  subst hc; rfl
 rw [hsh]
 have HO := Lib.hid hown
 clear hown hsh
 subst hc
 have hr : rightB 92 = true := by decide
 have HR := Lib.hid hr
 clear hr
 go_enter Tryz.func140, Tryz.ntmps140
 go_wp2_with fail
 refine (byte_no 92 w (by omega)).mono ?_
 rintro e w' ⟨rfl, rfl⟩
 go_wp2_with fail
 refine (right_any _ _).mono ?_
 rintro e w' ⟨rfl, rfl⟩
 rw [HR.out]
 go_wp2_with (at_builtin; (refine Lib.wpList_append_own_string _ rfl _ _ 44 9 rfl B 5 i0 Tryz.underlying44 Tryz.underlying9 hi hz0 hz1 hz2 _ _ _ rfl HO.out _ rfl (by unfold maxLen; show n + 2 ≤ _; omega) (by show n + 2 ≤ _; omega) hB ?_); intro v' w3 hown' hgrow _)
 go_ret
 exact ⟨v', rfl, by rw [Lib.byteCells_append]; exact hown', (Below.refl _ _).grown hgrow hB (fun k hk => (HO.out.lt k hk).1)⟩
set_option maxRecDepth 100000 in
set_option maxHeartbeats 2000000 in
theorem shown_10 (w : World) (B : Nat) (v : Value) (n : Nat) (xs : List UInt8) (c : Int) (hc : c = 10) (hB : B ≤ w.heap.size) (hown : w.ownsRow B 5 1 v n (Lib.byteCells xs)) (hn : n ≤ 1099511627000) :
  Calls Tryz.prog 140 #[v, .int .i32 c] w fun e w' => ∃ v', e = .returned v' ∧ Grew B w (n + (shown c).length) (xs ++ shown c) v' w' := by
 obtain ⟨i0, hi, hz0, hz1, hz2⟩ := info_parts info5
 have hsh : shown c = [92, 110] := by
  unfold shown
  subst hc; rfl
 rw [hsh]
 have HO := Lib.hid hown
 clear hown hsh
 subst hc
 have hr : rightB 10 = true := by decide
 have HR := Lib.hid hr
 clear hr
 go_enter Tryz.func140, Tryz.ntmps140
 go_wp2_with fail
 refine (byte_no 10 w (by omega)).mono ?_
 rintro e w' ⟨rfl, rfl⟩
 go_wp2_with fail
 refine (right_any _ _).mono ?_
 rintro e w' ⟨rfl, rfl⟩
 rw [HR.out]
 go_wp2_with (at_builtin; (refine Lib.wpList_append_own_string _ rfl _ _ 44 9 rfl B 5 i0 Tryz.underlying44 Tryz.underlying9 hi hz0 hz1 hz2 _ _ _ rfl HO.out _ rfl (by unfold maxLen; show n + 2 ≤ _; omega) (by show n + 2 ≤ _; omega) hB ?_); intro v' w3 hown' hgrow _)
 go_ret
 exact ⟨v', rfl, by rw [Lib.byteCells_append]; exact hown', (Below.refl _ _).grown hgrow hB (fun k hk => (HO.out.lt k hk).1)⟩
theorem byteCells_byte (c : Int) (h0 : 0 ≤ c) (h1 : c ≤ 255) : Lib.byteCells [c.toNat.toUInt8] = [.int .u8 c] := by
 have : c.toNat.toUInt8.toNat = c.toNat := by simp [Nat.toUInt8, UInt8.toNat_ofNat']; omega
 simp only [Lib.byteCells, List.map_cons, List.map_nil, this]
 rw [Int.toNat_of_nonneg h0]
set_option maxRecDepth 100000 in
set_option maxHeartbeats 2000000 in
theorem shown_plain (w : World) (B : Nat) (v : Value) (n : Nat) (xs : List UInt8) (c : Int) (h1 : 32 ≤ c) (h2 : c ≤ 126) (h3 : c ≠ 92) (hB : B ≤ w.heap.size) (hown : w.ownsRow B 5 1 v n (Lib.byteCells xs)) (hn : n ≤ 1099511627000) :
  Calls Tryz.prog 140 #[v, .int .i32 c] w fun e w' => ∃ v', e = .returned v' ∧ Grew B w (n + (shown c).length) (xs ++ shown c) v' w' := by
 obtain ⟨i0, hi, hz0, hz1, hz2⟩ := info_parts info5
 have hsh : shown c = [c.toNat.toUInt8] := by
  unfold shown
  rw [if_neg (by omega), if_neg (by omega), if_neg h3, if_neg (by omega), if_pos ⟨h1, h2⟩]
 rw [hsh]
 have HO := Lib.hid hown
 have e1 : (c == 92) = false := by simpa using h3
 have e2 : (c == 10) = false := by simp; omega
 clear hown hsh h3
 have hr : rightB c = true := by simp [rightB]; omega
 have HR := Lib.hid hr
 clear hr
 go_enter Tryz.func140, Tryz.ntmps140
 go_wp2_with fail
 refine (byte_no c w (by omega)).mono ?_
 rintro e w' ⟨rfl, rfl⟩
 go_wp2_with fail
 refine (right_any _ _).mono ?_
 rintro e w' ⟨rfl, rfl⟩
 rw [HR.out]
 go_wp2_with (at_builtin; (refine wpList_append_own _ rfl _ _ 44 rfl B 5 i0 (.int .u8 0) 1 1 Tryz.underlying44 hi hz0 hz1 hz2 rfl (by decide) _ _ _ rfl (HO.out.alloc _) _ 1 1 [.int .u8 c] rfl rfl (cell_one_new _ _ _) (by intro u hu; simp at hu; subst hu; rfl) (by unfold maxLen; omega) (by omega) (by simp; omega) ?_); intro v' w3 hown' hgrow _)
 go_ret
 exact ⟨v', rfl, by rw [Lib.byteCells_append, byteCells_byte c (by omega) (by omega)]; exact hown', ((Below.refl _ _).alloc hB _).grown hgrow (by simp; omega) (fun k hk => (HO.out.lt k hk).1)⟩
theorem strconvAppendInt_16z (w : World) (B : Nat) (v : Value) (n : Nat) (xs : List UInt8) (c : Int) (h0 : 0 ≤ c) (h1 : c ≤ 1114111) (hT : w.cell? ⟨5, 15, none⟩ = some (.int .u8 4)) (hB : B ≤ w.heap.size) (hown : w.ownsRow B 5 1 v n (Lib.byteCells xs)) (hn : n ≤ 1099511627776) :
  Calls Tryz.prog 177 #[v, .int .i64 c, .int .i64 16] w fun e w' => ∃ v', e = .returned v' ∧ Grew B w (n + (hexL c.toNat).length) (xs ++ hexL c.toNat) v' w' := by
 obtain ⟨u, rfl⟩ := Int.eq_ofNat_of_zero_le h0
 rw [Int.toNat_natCast]
 exact strconvAppendInt_16 w B v n xs u (by omega) hT hB hown hn
set_option maxRecDepth 100000 in
set_option maxHeartbeats 2000000 in
theorem shown_big (w : World) (B : Nat) (v : Value) (n : Nat) (xs : List UInt8) (c : Int) (h0 : 0 ≤ c) (h1 : c < 32 ∨ 126 < c) (h2 : c ≠ 10) (hy : -256 ≤ c ∧ c < 55296 ∨ 57343 < c ∧ c ≤ 1114111) (hT : w.cell? ⟨5, 15, none⟩ = some (.int .u8 4)) (hTB : 5 < B) (hB : B ≤ w.heap.size) (hown : w.ownsRow B 5 1 v n (Lib.byteCells xs)) (hn : n ≤ 1099511627000) :
  Calls Tryz.prog 140 #[v, .int .i32 c] w fun e w' => ∃ v', e = .returned v' ∧ Grew B w (n + (shown c).length) (xs ++ shown c) v' w' := by
 obtain ⟨i0, hi, hz0, hz1, hz2⟩ := info_parts info5
 have hsh : shown c = [92, 117, 123] ++ hexL c.toNat ++ [125] := by
  unfold shown
  rw [if_neg (by omega), if_neg (by omega), if_neg (by omega), if_neg h2, if_neg (by omega)]
 have HSH := Lib.hid hsh
 have HO := Lib.hid hown
 have e1 : (c == 92) = false := by simp; omega
 have e2 : (c == 10) = false := by simpa using h2
 have HT := Lib.hid hT
 have hlen := hexL_len 5 c.toNat (by have h16 : (16 : Nat) ^ (5 + 1) = 16777216 := (by decide); omega)
 have HLEN := Lib.hid hlen
 have hr : rightB c = true := by simp [rightB]; omega
 have HR := Lib.hid hr
 clear hr
 have hle : c ≤ 1114111 := by omega
 clear hown hsh h2 hT hlen hy
 go_enter Tryz.func140, Tryz.ntmps140
 go_wp2_with fail
 refine (byte_no c w (by omega)).mono ?_
 rintro e w' ⟨rfl, rfl⟩
 go_wp2_with fail
 refine (right_any _ _).mono ?_
 rintro e w' ⟨rfl, rfl⟩
 rw [HR.out]
 rcases h1 with h1 | h1
 all_goals
  go_wp2_with (at_builtin; (refine Lib.wpList_append_own_string _ rfl _ _ 44 9 rfl B 5 i0 Tryz.underlying44 Tryz.underlying9 hi hz0 hz1 hz2 _ _ _ rfl HO.out _ rfl (by unfold maxLen; show n + 3 ≤ _; omega) (by show n + 3 ≤ _; omega) hB ?_); intro v1 w1 hown1 hgrow1 _; have hb1 : Below B w w1 := (Below.refl _ _).grown hgrow1 hB (fun k hk => (HO.out.lt k hk).1); have HO1 := Lib.hid hown1; clear hown1 hgrow1)
  have hsz1 := hb1.size
  have HO1b : Hid (w1.ownsRow B 5 1 v1 (n + 3) (Lib.byteCells (xs ++ [92, 117, 123]))) := by rw [Lib.byteCells_append]; exact HO1.out
  refine (strconvAppendInt_16z w1 B v1 (n + 3) (xs ++ [92, 117, 123]) c h0 hle ((hb1.cell (p := ⟨5, 15, none⟩) hTB).trans HT.out) (by omega) HO1b.out (by omega)).mono ?_
  rintro e w2 ⟨v2, rfl, hown2, hb2⟩
  have HO2 := Lib.hid hown2
  have hsz2 := hb2.size
  clear hown2
  go_wp2_with (at_builtin; (refine wpList_append_own _ rfl _ _ 44 rfl B 5 i0 (.int .u8 0) 1 1 Tryz.underlying44 hi hz0 hz1 hz2 rfl (by decide) _ _ _ rfl (HO2.out.alloc _) _ 1 1 [.int .u8 125] rfl rfl (cell_one_new _ _ _) (by intro u hu; simp at hu; subst hu; rfl) (by have := HLEN.out; unfold maxLen; omega) (by have := HLEN.out; omega) (by simp; omega) ?_); intro v' w3 hown' hgrow _)
  go_ret
  refine ⟨v', rfl, ?_, ?_⟩
  ·have e3 : Lib.byteCells (xs ++ ([92, 117, 123] ++ hexL c.toNat ++ [125])) = Lib.byteCells (xs ++ [92, 117, 123] ++ hexL c.toNat) ++ [Value.int .u8 125] := by simp [Lib.byteCells]
   have e4 : n + ([92, 117, 123] ++ hexL c.toNat ++ [125]).length = n + 3 + (hexL c.toNat).length + 1 := by simp; omega
   rw [HSH.out, e3, e4]
   exact hown'
  ·exact (((hb1.trans hb2)).alloc (by omega) _).grown hgrow (by simp; omega) (fun k hk => (HO2.out.lt k hk).1)
theorem hex16_at : ∀ (x : Nat) (h : x < (ByteArray.mk #[48, 49, 50, 51, 52, 53, 54, 55, 56, 57, 97, 98, 99, 100, 101, 102]).size), (ByteArray.mk #[48, 49, 50, 51, 52, 53, 54, 55, 56, 57, 97, 98, 99, 100, 101, 102])[x]'h = dig x
 | 0, _ => rfl
 | 1, _ => rfl
 | 2, _ => rfl
 | 3, _ => rfl
 | 4, _ => rfl
 | 5, _ => rfl
 | 6, _ => rfl
 | 7, _ => rfl
 | 8, _ => rfl
 | 9, _ => rfl
 | 10, _ => rfl
 | 11, _ => rfl
 | 12, _ => rfl
 | 13, _ => rfl
 | 14, _ => rfl
 | 15, _ => rfl
 | (x + 16), h => absurd h (by show ¬ x + 16 < 16; omega)
theorem esc_cells (xs : List UInt8) (p q : Nat) (hp : p < (ByteArray.mk #[48, 49, 50, 51, 52, 53, 54, 55, 56, 57, 97, 98, 99, 100, 101, 102]).size) (hq : q < (ByteArray.mk #[48, 49, 50, 51, 52, 53, 54, 55, 56, 57, 97, 98, 99, 100, 101, 102]).size) :
  Lib.byteCells (xs ++ [92, 120, dig p, dig q]) = Lib.byteCells xs ++ [Value.int .u8 92, Value.int .u8 120, Value.int .u8 ((ByteArray.mk #[48, 49, 50, 51, 52, 53, 54, 55, 56, 57, 97, 98, 99, 100, 101, 102])[p]'hp).toNat, Value.int .u8 ((ByteArray.mk #[48, 49, 50, 51, 52, 53, 54, 55, 56, 57, 97, 98, 99, 100, 101, 102])[q]'hq).toNat] := by
 rw [hex16_at p hp, hex16_at q hq]
 simp [Lib.byteCells]
theorem and15_u8 (b : Nat) (h : b ≤ 255) : bits BinOp.and IntKind.u8 (b : Int) 15 = ((b % 16 : Nat) : Int) := by
 have : ∀ b : Fin 256, bits BinOp.and IntKind.u8 ((b.val : Nat) : Int) 15 = ((b.val % 16 : Nat) : Int) := by decide +kernel
 exact this ⟨b, by omega⟩
theorem cell_four_new (w : World) (a b c d : Value) (t : TypeId) : ∀ j u, [a, b, c, d][j]? = some u → (w.alloc (.cells #[a, b, c, d] t)).cell? ((⟨w.heap.size, 0, none⟩ : Addr).add j) = some u := by
 intro j u h
 match j, h with
 | 0, h => simpa [Addr.add] using h
 | 1, h => simpa [Addr.add] using h
 | 2, h => simpa [Addr.add] using h
 | 3, h => simpa [Addr.add] using h
set_option maxRecDepth 100000 in
set_option maxHeartbeats 2000000 in
theorem shown_esc (w : World) (B : Nat) (v : Value) (n : Nat) (xs : List UInt8) (c : Int) (h0 : -256 ≤ c) (h1 : c < 0) (hB : B ≤ w.heap.size) (hown : w.ownsRow B 5 1 v n (Lib.byteCells xs)) (hn : n ≤ 1099511627000) :
  Calls Tryz.prog 140 #[v, .int .i32 c] w fun e w' => ∃ v', e = .returned v' ∧ Grew B w (n + (shown c).length) (xs ++ shown c) v' w' := by
 obtain ⟨i0, hi, hz0, hz1, hz2⟩ := info_parts info5
 have hsh : shown c = [92, 120, dig ((-1 - c).toNat / 16), dig ((-1 - c).toNat % 16)] := by
  unfold shown
  rw [if_pos ⟨h0, h1⟩]
 have HSH := Lib.hid hsh
 have HO := Lib.hid hown
 clear hown hsh
 go_enter Tryz.func140, Tryz.ntmps140
 go_wp2_with fail
 refine (byte_yes c w h0 h1).mono ?_
 rintro e w' ⟨rfl, rfl⟩
 obtain ⟨b, hb⟩ : ∃ b : Nat, -1 - c = b := ⟨(-1 - c).toNat, by omega⟩
 rw [hb]
 have hb2 : b ≤ 255 := by omega
 have HB := Lib.hid hb
 clear hb
 obtain ⟨p, hp⟩ : ∃ p : Nat, p = b / 16 := ⟨_, rfl⟩
 obtain ⟨q, hq⟩ : ∃ q : Nat, q = b % 16 := ⟨_, rfl⟩
 have hp1 : (b : Int) / 16 = (p : Int) := by omega
 have hq1 : (b : Int) % 16 = (q : Int) := by omega
 have hp2 : p < 16 := by omega
 have hq2 : q < 16 := by omega
 have hp3 : (p : Int) < 16 := by omega
 have hq3 : (q : Int) < 16 := by omega
 have hand : bits BinOp.and IntKind.u8 (b : Int) 15 = (q : Int) := by rw [and15_u8 b hb2, hq]
 have HP := Lib.hid hp
 have HQ := Lib.hid hq
 clear hp hq
 go_wp2
 go_region_law ((refine step_append_lies _ rfl (.tmp 14) (.tmp 21) 44 rfl B 5 i0 (.int .u8 0) 1 1 Tryz.underlying44 hi hz0 hz1 hz2 rfl (by decide) v n (Lib.byteCells xs) (by simp [Act.eval]) (HO.out.alloc _) _ 4 4 _ (by simp [Act.eval]) rfl (cell_four_new _ _ _ _ _ _) (by intro u hu; simp at hu; rcases hu with rfl | rfl | rfl | rfl <;> rfl) (by decide) (by unfold maxLen; omega) (by omega) (by simp; omega) _ rfl ?_); intro g cap w1 hown1 hgrow1 _ _)
 all_goals
  have HO1 := Lib.hid hown1
  have HG1 := Lib.hid hgrow1
  clear hown1 hgrow1
  go_wp2
  go_ret
  refine ⟨.slice (some ⟨g, 0, none⟩) (n + 4) cap, rfl, ?_, ?_⟩
  ·have e5 : shown c = [92, 120, dig p, dig q] := by rw [HSH.out, HB.out, Int.toNat_natCast, ← HP.out, ← HQ.out]
   rw [e5, esc_cells xs p q hp2 hq2]
   exact HO1.out
  ·exact ((Below.refl _ _).alloc hB _).drew.grown HG1.out (by simp; omega) (fun k hk => (HO.out.lt k hk).1)
theorem appendShown_any (w : World) (B : Nat) (v : Value) (n : Nat) (xs : List UInt8) (c : Int) (hT : w.cell? ⟨5, 15, none⟩ = some (.int .u8 4)) (hTB : 5 < B) (hB : B ≤ w.heap.size) (hown : w.ownsRow B 5 1 v n (Lib.byteCells xs)) (hn : n ≤ 1099511627000) :
  Calls Tryz.prog 140 #[v, .int .i32 c] w fun e w' => ∃ v', e = .returned v' ∧ Grew B w (n + (shown c).length) (xs ++ shown c) v' w' := by
 by_cases h1 : -256 ≤ c ∧ c < 0
 ·exact shown_esc w B v n xs c h1.1 h1.2 hB hown hn
 by_cases h2 : -256 ≤ c ∧ c < 55296 ∨ 57343 < c ∧ c ≤ 1114111
 ·by_cases h3 : c = 92
  ·exact shown_92 w B v n xs c h3 hB hown hn
  by_cases h4 : c = 10
  ·exact shown_10 w B v n xs c h4 hB hown hn
  by_cases h5 : 32 ≤ c ∧ c ≤ 126
  ·exact shown_plain w B v n xs c h5.1 h5.2 h3 hB hown hn
  ·exact shown_big w B v n xs c (by omega) (by omega) h4 h2 hT hTB hB hown hn
 ·exact shown_wrong w B v n xs c h2 hB hown hn
end Go.Proofs.YthgiikhkcpbpfaaGreatDoor.C


namespace Go.Proofs.YthgiikhkcpbpfaaGreatDoor.C
open Go.RowKit
theorem conv_own {w : World} {B : Nat} {v : Value} {n : Nat} {xs : List UInt8} (h : w.ownsRow B 5 1 v n (Lib.byteCells xs)) : (convert 44 9 v).run Tryz.prog w = .ok (.string (str xs)) w := by
 have hl : xs.length = n := by have := h.1; rw [Lib.byteCells_length] at this; omega
 rcases h.2 with ⟨rfl, rfl⟩ | ⟨g, cap, cur, rfl, h2, h3, h4⟩
 ·obtain rfl : xs = [] := List.eq_nil_of_length_eq_zero hl
  exact Lib.run_convert_nil_bytes w 44 9 5 0 Tryz.underlying44 Tryz.underlying5 Tryz.underlying9
 ·subst hl
  refine run_convert_bytes_back w 44 9 5 ⟨g, 0, none⟩ cap xs Tryz.underlying44 Tryz.underlying5 Tryz.underlying9 ?_
  intro j hj
  refine h.cells (g := g) rfl j _ ?_
  simp [Lib.byteCells, hj]
theorem textL_snoc (l : List Int) (c : Int) : textL (l ++ [c]) = textL l ++ shown c := by simp [textL]
theorem textL_le (l : List Int) : (textL l).length ≤ 10 * l.length := by
 induction l with
 | nil => simp [textL]
 | cons c l ih =>
  have := shown_le c
  simp only [textL, List.flatMap_cons, List.length_append, List.length_cons] at *
  omega
set_option maxRecDepth 100000 in
set_option maxHeartbeats 1000000 in
theorem text_any (w : World) (Bx : Nat) (Ax : Option Addr) (n cx : Nat) (xs : List Int) (hx : RI .i32 w Bx Ax n xs) (hBx : Bx ≤ w.heap.size) (hn : n ≤ 1073741824) (hT : w.cell? ⟨5, 15, none⟩ = some (.int .u8 4)) :
  Calls Tryz.prog 93 #[.slice Ax n cx] w fun e w' => e = .returned (.string (str (textL xs))) ∧ Below w.heap.size w w' := by
 have HX := Lib.hid hx
 have hTB := World.block_lt_of_cell? w _ hT
 have HT := Lib.hid hT
 clear hx hT
 go_enter Tryz.func93, Tryz.ntmps93
 go_wp2
 go_loopw [3, 8] (fun v i wr => ∃ k : Nat, k ≤ n ∧ i = .int .i64 k ∧ Hid (wr.ownsRow w.heap.size 5 1 v (textL (xs.take k)).length (Lib.byteCells (textL (xs.take k)))) ∧ Below w.heap.size w wr) (fun _ i _ => n - (intOf i).toNat)
 case atStart => exact ⟨0, Nat.zero_le _, rfl, World.ownsRow_nil _ _ _ _, Below.refl _ _⟩
 case round =>
  obtain ⟨k, hk, rfl, HW, hb⟩ := hrel
  by_cases hlt : k < n
  ·obtain ⟨ad, c, rfl, hbl, hc, hcell⟩ := HX.out.at_ hlt
   have hcr : wr.cell? (ad.add k) = some (.int .i32 c) := (hb.cell (p := ad.add k) (by rw [block_of_add]; omega)).trans hcell
   have hle := textL_le (xs.take k)
   have hlk : (xs.take k).length ≤ k := List.length_take_le _ _
   have HC := Lib.hid hc
   clear hc hcell
   go_wp2_with fail
   refine (appendShown_any wr w.heap.size _ (textL (xs.take k)).length (textL (xs.take k)) c ((hb.cell (p := ⟨5, 15, none⟩) hTB).trans HT.out) hTB hb.size HW.out (by omega)).mono ?_
   rintro e w1 ⟨v1, rfl, hown1, hb1⟩
   have hown2 : Hid (w1.ownsRow w.heap.size 5 1 v1 (textL (xs.take (k + 1))).length (Lib.byteCells (textL (xs.take (k + 1))))) := by
    rw [take_snoc HC.out, textL_snoc, List.length_append]
    exact hown1
   clear hown1
   have hb2 := hb.trans hb1
   go_wp2
   go_roundw
   case rel => exact ⟨k + 1, by omega, by go_num, hown2, hb2⟩
   case measure => simp [intOf]; omega
  ·have hkn : k = n := by omega
   have hcv := conv_own HW.out
   have HK := Lib.hid hkn
   clear hkn
   go_wp2
   go_ret
   refine ⟨?_, hb⟩
   have e1 : xs.take k = xs := List.take_of_length_le (by rw [HX.out.len, HK.out]; exact Nat.le_refl _)
   rw [e1]
   rfl
end Go.Proofs.YthgiikhkcpbpfaaGreatDoor.C


namespace Go.Proofs.YthgiikhkcpbpfaaGreatDoor.C
open Go.RowKit
theorem RI.of_row {ki : IntKind} {w : World} {a : Option Addr} {len cap : Nat} {zs : List Int} (h : L.IsRow ki w a len cap zs) : RI ki w w.heap.size a len (zs.take len) := by
 rcases h with ⟨rfl, rfl, rfl, rfl⟩ | ⟨x, rfl, hl, hm, hz, hc, _⟩
 ·exact ⟨by simp, fun h => absurd h (by omega)⟩
 ·refine ⟨by simp; omega, fun hn => ⟨x, rfl, ?_, fun j u hu => ?_⟩⟩
  ·have := World.block_lt_of_cell? w _ (hc 0 (by omega))
   rwa [block_of_add] at this
  ·rw [List.getElem?_take] at hu
   split at hu
   ·have hj : j < zs.length := (List.getElem?_eq_some_iff.1 hu).1
    rw [hc j hj]
    simp [hu]
   ·cases hu
theorem row_len {ki : IntKind} {w : World} {a : Option Addr} {len cap : Nat} {zs : List Int} (h : L.IsRow ki w a len cap zs) : len ≤ cap ∧ cap ≤ maxLen := by
 rcases h with ⟨rfl, rfl, rfl, rfl⟩ | ⟨x, rfl, hl, hm, hz, hc, _⟩
 ·exact ⟨Nat.le_refl _, Nat.zero_le _⟩
 ·exact ⟨hl, hm⟩
theorem row_u8 {w : World} {a : Option Addr} {len cap : Nat} {zs : List Int} (h : L.IsRow .u8 w a len cap zs) : ∀ z ∈ zs.take len, 0 ≤ z ∧ z ≤ 255 := by
 rcases h with ⟨rfl, rfl, rfl, rfl⟩ | ⟨x, rfl, hl, hm, hz, hc, hw⟩
 ·intro z hz; simp at hz
 ·intro z hz
  exact bounds_u8 (hw z (List.mem_of_mem_take hz))
section
variable {P : Program} (w : World)
end
end Go.Proofs.YthgiikhkcpbpfaaGreatDoor.C


namespace Go.Proofs.YthgiikhkcpbpfaaGreatDoor.C
open Go.RowKit
theorem below_drewN {B : Nat} {a w : World} (h : Below B a w) (n : Nat) : Below B a (w.drewN n) := ⟨h.os, h.tape, h.output, h.size, h.block⟩
theorem conv_ri {w : World} {B n : Nat} {A : Option Addr} {zs : List Int} (h : RI .u8 w B A n zs) (c : Nat) : (convert 44 9 (.slice A n c)).run Tryz.prog w = .ok (.string (sb zs)) w := by
 rcases Nat.eq_zero_or_pos n with h0 | h0
 ·subst h0
  obtain rfl : zs = [] := List.eq_nil_of_length_eq_zero h.1
  exact run_convert_bytes_zero w 44 5 Tryz.underlying44 Tryz.underlying5 A c 9 Tryz.underlying9
 ·obtain ⟨b, off, rfl, _, hc⟩ := h.flat h0
  refine run_convert_bytes_arg w 44 5 Tryz.underlying44 Tryz.underlying5 b off n c zs h.1 (fun i hi => ?_) 9 Tryz.underlying9
  have hi' : i < zs.length := by rw [h.1]; exact hi
  rw [hc i zs[i] (List.getElem?_eq_getElem hi')]
  simp [List.getD_eq_getElem?_getD, List.getElem?_eq_getElem hi']
theorem own_slice2 {w : World} {base : Nat} {e : TypeId} {ki : IntKind} {v : Value} {n : Nat} {zs : List Int} (h : w.ownsRow base e 1 v n (zs.map (Value.int ki))) : ∃ A c, v = .slice A n c ∧ n ≤ c ∧ c ≤ maxLen ∧ RI ki w w.heap.size A n zs := by
 rcases h.2 with ⟨rfl, rfl⟩ | ⟨g, c, cur, rfl, _, _, hc, hm, _⟩
 ·have hz : zs = [] := List.eq_nil_of_length_eq_zero (by have := h.1; simpa using this)
  subst hz
  exact ⟨none, 0, rfl, Nat.le_refl _, Nat.zero_le _, RI.none_⟩
 ·exact ⟨_, c, rfl, hc, hm, RI.of_own h⟩
theorem RI.new (w : World) (ki : IntKind) (zs : List Int) (t : TypeId) : RI ki (w.alloc (.cells (zs.map (Value.int ki)).toArray t)) (w.heap.size + 1) (some ⟨w.heap.size, 0, none⟩) zs.length zs :=
 ⟨rfl, fun _ => ⟨_, rfl, Nat.lt_succ_self _, fun j u hu => by
  rw [add_plain, Nat.zero_add, World.cell?_alloc_new]
  simp [hu]⟩⟩
set_option maxHeartbeats 1000000 in
theorem canonical_any (w : World) (B : Nat) (A : Option Addr) (n c : Nat) (xs : List Int) (hx : RI .i32 w B A n xs) (hB : B ≤ w.heap.size) (hn : n ≤ 268435456) (hT : Lib.Utf8Tabs 0 1 w) :
  Calls Tryz.prog 174 #[.slice A n c] w fun e w' => e = .returned (.bool (canonB xs)) ∧ Below w.heap.size w w' := by
 have HX := Lib.hid hx
 have HT := Lib.hid hT
 clear hx hT
 cases ha : xs.all rightB with
 | false =>
  have hcb : canonB xs = false := by simp only [canonB, ha, Bool.false_and]
  have HA := Lib.hid ha
  rw [hcb]
  clear ha hcb
  go_enter Tryz.func174, Tryz.ntmps174
  go_wp2_with fail
  refine (encode_no w B A n c xs HX.out hB (by omega) HA.out).mono ?_
  rintro e w1 ⟨rfl, hb1⟩
  go_wp2
  go_ret
  exact ⟨rfl, hb1⟩
 | true =>
  have hcb : canonB xs = sameB (ofL (sb (encL xs))) xs := by simp only [canonB, ha, Bool.true_and]
  have HA := Lib.hid ha
  rw [hcb]
  clear ha hcb
  have hle := (encL_len xs).2
  rw [HX.out.len] at hle
  go_enter Tryz.func174, Tryz.ntmps174
  go_wp2_with fail
  refine (encode_yes w B A n c xs HX.out hB (by omega) HA.out).mono ?_
  rintro e w1 ⟨v1, rfl, hown1, hb1⟩
  obtain ⟨A1, c1, rfl, hc1, hm1, hr1⟩ := own_slice2 hown1
  have HR1 := Lib.hid hr1
  have hs1 := hb1.size
  clear hown1 hr1
  generalize hln : (encL xs).length = ln at *
  have HLN := Lib.hid hln
  clear hln
  go_wp2_with fail
  refine (decode_any w1 w1.heap.size A1 ln c1 (encL xs) HR1.out (Nat.le_refl _) (all_bd HA.out) hc1 (by omega) hm1 (tabs_below HT.out hb1)).mono ?_
  rintro e w2 ⟨v2, rfl, hown2, hb2⟩
  obtain ⟨A2, c2, rfl, hc2, hm2, hr2⟩ := own_slice2 hown2
  have HR2 := Lib.hid hr2
  have hs2 := hb2.size
  clear hown2 hr2
  have hx2 : RI .i32 w2 B A n xs := (HX.out.keep fun p hp => hb1.cell (p := p) (by omega)).keep fun p hp => hb2.cell (p := p) (by omega)
  have HX2 := Lib.hid hx2
  clear hx2
  generalize hl2 : (ofL (sb (encL xs))).length = l2 at *
  have HL2 := Lib.hid hl2
  clear hl2
  unfold maxLen at hm2
  go_wp2_with fail
  refine (equal_any w2 w2.heap.size B A2 A l2 c2 n c (ofL (sb (encL xs))) xs HR2.out HX2.out (by omega)).mono ?_
  rintro e w3 ⟨rfl, q, rfl⟩
  go_wp2
  go_ret
  exact ⟨rfl, below_drewN (hb1.trans (hb2.mono hs1)) q⟩
theorem canonical_is (w : World) (B : Nat) (A : Option Addr) (n c : Nat) (xs : List Int) (hx : RI .i32 w B A n xs) (hB : B ≤ w.heap.size) (hn : n ≤ 268435456) (hT : Lib.Utf8Tabs 0 1 w) (r : Bool) (hr : canonB xs = r) :
  Calls Tryz.prog 174 #[.slice A n c] w fun e w' => e = .returned (.bool r) ∧ Below w.heap.size w w' := by
 subst hr
 exact canonical_any w B A n c xs hx hB hn hT
end Go.Proofs.YthgiikhkcpbpfaaGreatDoor.C


namespace Go.Proofs.YthgiikhkcpbpfaaGreatDoor.C
open Go.RowKit
theorem Gm.next {w w' : World} (h : Gm w) (hb : Below w.heap.size w w') : Gm w' := ⟨h.1.next hb, tabs_below h.2 hb⟩
set_option maxRecDepth 100000 in
set_option maxHeartbeats 1000000 in
theorem index32_any (w : World) (B : Nat) (A : Option Addr) (n c : Nat) (ks : List Int) (v : Int) (h : RI .i32 w B A n ks) (hn : n ≤ 1000) :
  Calls Tryz.prog 75 #[.slice A n c, .int .i32 v] w fun e w' => (∃ i : Int, e = .returned (.int .i64 i) ∧ (decide (0 ≤ i) = inKs ks v)) ∧ w' = w := by
 have H := Lib.hid h
 have hl := h.len
 clear h
 have HL := Lib.hid hl
 clear hl
 go_enter Tryz.func75, Tryz.ntmps75
 go_wp2
 go_loop [8] (fun i => ∃ k : Nat, k ≤ n ∧ i = .int .i64 k ∧ Hid (v ∉ ks.take k)) (fun i => n - (intOf i).toNat)
 case atStart => exact ⟨0, Nat.zero_le _, rfl, Lib.hid (by simp)⟩
 case round =>
  obtain ⟨k, hk, rfl, HN⟩ := hrel
  by_cases hlt : k < n
  ·obtain ⟨ad, u, rfl, hb, hu, hc⟩ := H.out.at_ hlt
   have HU := Lib.hid hu
   clear hu
   by_cases hv : v = u
   ·subst hv
    go_wp2
    go_ret
    refine ⟨⟨_, rfl, ?_⟩, rfl⟩
    have hm : v ∈ ks := List.mem_of_getElem? HU.out
    simp [inKs, hm]
   ·have hv' : (v == u) = false := by simpa using hv
    go_wp2
    go_round
    case rel => exact ⟨k + 1, by omega, by go_num, Lib.hid (by
     rw [List.take_add_one, HU.out]
     simp only [Option.toList_some, List.mem_append, List.mem_singleton, not_or]
     exact ⟨HN.out, hv⟩)⟩
    case measure => simp [intOf]; omega
  ·obtain rfl : k = n := by omega
   go_wp2
   go_ret
   refine ⟨⟨_, rfl, ?_⟩, rfl⟩
   have hm := HN.out
   rw [List.take_of_length_le (by rw [HL.out]; exact Nat.le_refl _)] at hm
   simp [inKs, hm]
set_option maxRecDepth 100000 in
set_option maxHeartbeats 1000000 in
theorem contains32_is (w : World) (B : Nat) (A : Option Addr) (n c : Nat) (ks : List Int) (v : Int) (h : RI .i32 w B A n ks) (hn : n ≤ 1000) (b : Bool) (hb : inKs ks v = b) :
  Calls Tryz.prog 49 #[.slice A n c, .int .i32 v] w fun e w' => e = .returned (.bool b) ∧ w' = w := by
 have hi := index32_any w B A n c ks v h hn
 rw [hb] at hi
 clear h hb
 go_enter Tryz.func49, Tryz.ntmps49
 go_wp2_with fail
 refine hi.mono ?_
 rintro e w' ⟨⟨i, rfl, hi2⟩, rfl⟩
 have HI := Lib.hid hi2
 clear hi2
 cases b with
 | true =>
  have h0 : 0 ≤ i := by simpa using HI.out
  go_wp2
  go_ret
  exact ⟨rfl, rfl⟩
 | false =>
  have h0 : decide (0 ≤ i) = false := HI.out
  go_wp2
  go_ret
  exact ⟨rfl, rfl⟩
set_option maxRecDepth 100000 in
set_option maxHeartbeats 2000000 in
theorem isQuotable_any (w : World) (B : Nat) (A : Option Addr) (n c : Nat) (xs : List Int) (h : RI .i32 w B A n xs) (hB : B ≤ w.heap.size) (hG : Gm w) :
  Calls Tryz.prog 138 #[.slice A n c] w fun e w' => e = .returned (.bool (quotB xs)) ∧ Below w.heap.size w w' := by
 have hl := h.len
 by_cases h2 : n < 2
 ·have hq : quotB xs = false := by
   unfold quotB
   rw [decide_eq_false (by omega)]
   rfl
  have i2 : (n : Int) < 2 := by omega
  rw [hq]
  clear h hG hq hl
  go_enter Tryz.func138, Tryz.ntmps138
  go_wp2
  go_ret
  exact ⟨rfl, Below.refl _ _⟩
 have i2 : ¬ (n : Int) < 2 := by omega
 by_cases h4 : 4 < n
 ·have hq : quotB xs = false := by
   unfold quotB
   rw [decide_eq_false (by omega)]
   rfl
  have i4 : (4 : Int) < (n : Int) := by omega
  rw [hq]
  clear h hG hq hl
  go_enter Tryz.func138, Tryz.ntmps138
  go_wp2
  go_ret
  exact ⟨rfl, Below.refl _ _⟩
 have i4 : ¬ (4 : Int) < (n : Int) := by omega
 have hd : decide (2 ≤ xs.length ∧ xs.length ≤ 4) = true := decide_eq_true (by omega)
 have c34 := fun b hb => contains32_is w B A n c xs 34 h (by omega) b hb
 have c10 := fun b hb => contains32_is w B A n c xs 10 h (by omega) b hb
 have hca := canonical_is w B A n c xs h hB (by omega) hG.2 _ rfl
 cases k34 : inKs xs 34 with
 | true =>
  have hq : quotB xs = false := by
   unfold quotB
   rw [show xs.contains 34 = true from k34]
   simp
  have c34' := c34 true k34
  rw [hq]
  clear h hG hq hl c34 c10 hca hd k34
  go_enter Tryz.func138, Tryz.ntmps138
  go_wp2_with (go_at_call 49; with_reducible refine c34'.mono ?_; rintro e w' ⟨rfl, rfl⟩)
  go_ret
  exact ⟨rfl, Below.refl _ _⟩
 | false =>
  have c34' := c34 false k34
  cases k10 : inKs xs 10 with
  | true =>
   have hq : quotB xs = false := by
    unfold quotB
    rw [show xs.contains 10 = true from k10]
    simp
   have c10' := c10 true k10
   rw [hq]
   clear h hG hq hl c34 c10 hca hd k34 k10
   go_enter Tryz.func138, Tryz.ntmps138
   go_wp2_with (first
    | (go_at_call 49; with_reducible refine c34'.mono ?_; rintro e w' ⟨rfl, rfl⟩)
    | (go_at_call 49; with_reducible refine c10'.mono ?_; rintro e w' ⟨rfl, rfl⟩))
   go_ret
   exact ⟨rfl, Below.refl _ _⟩
  | false =>
   have c10' := c10 false k10
   have hq : quotB xs = canonB xs := by
    unfold quotB
    rw [show xs.contains 10 = false from k10, show xs.contains 34 = false from k34, hd]
    simp
   rw [hq]
   obtain ⟨r, hr⟩ : ∃ r, r = canonB xs := ⟨_, rfl⟩
   rw [← hr] at hca ⊢
   clear h hG hq hl c34 c10 hd k34 k10 hr
   go_enter Tryz.func138, Tryz.ntmps138
   go_wp2_with (first
    | (go_at_call 49; with_reducible refine c34'.mono ?_; rintro e w' ⟨rfl, rfl⟩)
    | (go_at_call 49; with_reducible refine c10'.mono ?_; rintro e w' ⟨rfl, rfl⟩)
    | (go_at_call 174; refine hca.mono ?_; rintro e w' ⟨rfl, hb⟩; (have HB := Lib.hid hb); clear hb))
   go_ret
   exact ⟨rfl, HB.out⟩
end Go.Proofs.YthgiikhkcpbpfaaGreatDoor.C


namespace Go.Proofs.YthgiikhkcpbpfaaGreatDoor.C
open Go.RowKit
section
variable {P : Program} {w : World} {M : Nat} {kd : TypeDesc} {l : List (Value × Value)} {t k e : TypeId} {key : Value}
theorem MapIs.put_same (h : MapIs w M kd l) (ht : P.underlying t = some (.map k e)) (hk : P.underlying k = some kd) (hkey : MapKept.IsKey kd key) {i : Nat} {v0 : Value} (hm : l[i]? = some (key, v0)) (val : Value) :
  ∃ o, (Instr.mapUpdate t (.map (some M)) key val).run P w = .ok () (putObj w M o) ∧ MapIs (putObj w M o) M kd (l.set i (key, val)) := by
 obtain ⟨es, clock, h1, h2, h3, h4⟩ := h
 have hM : M < w.heap.size := (Array.getElem?_eq_some_iff.1 h1).1
 have hks : ∀ x ∈ es.toList, MapKept.IsKey kd x.key := fun x hx => h3 (x.key, x.val) (by rw [← h2]; exact List.mem_map_of_mem hx)
 rcases MapKept.findNow_spec hkey es.toList 0 hks with ⟨_, hn⟩ | ⟨j, x, hf, hj, hx⟩
 ·exfalso
  have := List.mem_of_getElem? hm
  rw [← h2, List.mem_map] at this
  obtain ⟨x, hx, hxe⟩ := this
  exact hn x hx (congrArg Prod.fst hxe)
 ·have hj' : es[j]? = some x := by simpa using hj
  have hc : (Instr.checkKey false 10000 k key).run P w = .ok () w := MapKept.run_checkKey hk hkey false 9999
  have hij : i = j := by
   have e1 : l[j]? = some (x.key, x.val) := by rw [← h2, List.getElem?_map, hj]; rfl
   have e2 : (l.map Prod.fst)[j]? = some key := by rw [List.getElem?_map, e1, hx]; rfl
   have e3 : (l.map Prod.fst)[i]? = some key := by rw [List.getElem?_map, hm]; rfl
   have q1 := List.getElem?_eq_some_iff.1 e2
   have q2 := List.getElem?_eq_some_iff.1 e3
   rcases Nat.lt_trichotomy i j with hlt | hlt | hlt
   ·exact absurd (q2.2.trans q1.2.symm) ((List.pairwise_iff_getElem.1 h4) i j q2.1 q1.1 hlt)
   ·exact hlt
   ·exact absurd (q1.2.trans q2.2.symm) ((List.pairwise_iff_getElem.1 h4) j i q1.1 q2.1 hlt)
  subst hij
  refine ⟨_, by simp [Instr.mapUpdate, run_underlying ht, MapKept.run_getObj_map h1, hc, MapKept.run_findKey hk hf, hj', hx, MapKept.run_keyThatStays hkey, MapKept.run_setObj_map _ h1, Result.andThen, putObj]; rfl, ?_⟩
  refine ⟨_, _, putObj_at _ hM, ?_, ?_, ?_⟩
  ·rw [Array.toList_modify, ← h2]
   refine List.ext_getElem? fun n => ?_
   rw [List.getElem?_map, List.getElem?_modify, List.getElem?_set, List.getElem?_map]
   by_cases hin : i = n
   ·subst hin
    rw [if_pos rfl, if_pos (by rw [List.length_map]; exact (List.getElem?_eq_some_iff.1 hj).1), hj]
    simp
   ·simp [hin]
  ·intro x hx
   rcases List.mem_or_eq_of_mem_set hx with hx | rfl
   ·exact h3 x hx
   ·exact hkey
  ·have e4 : (l.set i (key, val)).map Prod.fst = l.map Prod.fst := by
    rw [List.map_set]
    refine List.ext_getElem? fun n => ?_
    rw [List.getElem?_set]
    by_cases hin : i = n
    ·subst hin
     have e2 : (l.map Prod.fst)[i]? = some key := by rw [List.getElem?_map, hm]; rfl
     rw [if_pos rfl, if_pos (List.getElem?_eq_some_iff.1 e2).1, e2]
    ·rw [if_neg hin]
   rw [e4]
   exact h4
end
end Go.Proofs.YthgiikhkcpbpfaaGreatDoor.C
