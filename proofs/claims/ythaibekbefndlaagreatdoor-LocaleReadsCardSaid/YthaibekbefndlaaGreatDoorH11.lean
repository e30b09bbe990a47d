/-
  Joined: LdC, LdD, LdE, LdF. Each with what its own head says.
-/
import Derived.Test.YthaibekbefndlaaGreatDoorH10

namespace Go.Proofs.YthaibekbefndlaaGreatDoor.C
open Go.RowKit

theorem flat_at {sz : Nat} : ∀ {xs : List (List Value)} {j i : Nat} {x : List Value} {u : Value}, (∀ x ∈ xs, x.length = sz) → xs[j]? = some x → x[i]? = some u → xs.flatten[j * sz + i]? = some u
 | [], j, i, x, u, _, hx, _ => by simp at hx
 | y :: r, 0, i, x, u, h, hx, hu => by
  simp at hx
  subst hx
  have hi : i < y.length := (List.getElem?_eq_some_iff.1 hu).1
  rw [List.flatten_cons, List.getElem?_append_left (by omega)]
  simpa using hu
 | y :: r, j + 1, i, x, u, h, hx, hu => by
  have hy := h y (by simp)
  rw [List.flatten_cons, List.getElem?_append_right (by rw [hy, Nat.succ_mul]; omega), hy]
  have := flat_at (xs := r) (j := j) (fun z hz => h z (List.mem_cons_of_mem _ hz)) (by simpa using hx) hu
  rw [show (j + 1) * sz + i - sz = j * sz + i by rw [Nat.succ_mul]; omega]
  exact this
theorem SI.of_own {w : World} {base sz n c : Nat} {e : TypeId} {A : Option Addr} {xs : List (List Value)} (h : w.ownsRow base e sz (.slice A n c) n xs.flatten) (hl : xs.length = n) (hx : ∀ x ∈ xs, x.length = sz) : SI sz w w.heap.size A n xs := by
 refine ⟨hl, hx, fun hn => ?_⟩
 rcases h.2 with ⟨_, h0⟩ | ⟨g, cap, cur, he, _⟩
 ·omega
 ·injection he with he _ _
  subst he
  refine ⟨_, rfl, (h.lt g rfl).2, fun j x hj i u hu => ?_⟩
  exact h.cells rfl _ _ (flat_at hx hj hu)
def ordR (o : List Elm) (vs : List Value) : List (List Value) := (o.zip vs).map fun x => [.string (str x.1.name), x.2, .int .i64 x.1.same]
theorem ordR_len {o : List Elm} {vs : List Value} (h : vs.length = o.length) : (ordR o vs).length = o.length := by simp [ordR, h]
theorem ordR_each {o : List Elm} {vs : List Value} : ∀ x ∈ ordR o vs, x.length = 3 := by
 intro x hx
 unfold ordR at hx
 rw [List.mem_map] at hx
 obtain ⟨y, _, rfl⟩ := hx
 rfl
theorem ordR_at {o : List Elm} {vs : List Value} {k : Nat} {x : List Value} (hk : (ordR o vs)[k]? = some x) : ∃ e v, o[k]? = some e ∧ vs[k]? = some v ∧ x = [.string (str e.name), v, .int .i64 e.same] := by
 unfold ordR at hk
 rw [List.getElem?_map] at hk
 cases hz : (o.zip vs)[k]? with
 | none => rw [hz] at hk; cases hk
 | some y =>
  rw [hz] at hk
  injection hk with hk
  obtain ⟨e, v⟩ := y
  rw [List.getElem?_zip_eq_some] at hz
  exact ⟨e, v, hz.1, hz.2, hk.symm⟩
theorem ordR_snoc {o : List Elm} {vs : List Value} (h : vs.length = o.length) (e : Elm) (v : Value) : ordR (o ++ [e]) (vs ++ [v]) = ordR o vs ++ [[.string (str e.name), v, .int .i64 e.same]] := by
 unfold ordR
 rw [List.zip_append h.symm]
 simp
def OrdAt (w : World) (lo : Nat) (v : Value) (o : List Elm) : Prop :=
 ∃ vs : List Value, vs.length = o.length ∧ w.ownsRow lo 34 3 v o.length (ordR o vs).flatten ∧ ∀ (i : Nat) (e : Elm) (x : Value), o[i]? = some e → vs[i]? = some x → w.ownsRow lo 35 1 x e.cells.length (celC e.cells)
theorem OrdAt.nil (w : World) (lo : Nat) : OrdAt w lo (.slice none 0 0) [] := ⟨[], rfl, ⟨rfl, .inl ⟨rfl, rfl⟩⟩, by simp⟩
theorem OrdAt.fr {w w' : World} {X : Nat → Prop} {lo : Nat} {v : Value} {o : List Elm} (h : OrdAt w lo v o) (hf : Fr w w' X) (hx : ∀ g c z t, X g → w.heap[g]? = some (.cells c t z) → t ≠ 35 ∧ t ≠ 34) : OrdAt w' lo v o := by
 obtain ⟨vs, h1, h2, h3⟩ := h
 refine ⟨vs, h1, ownsRow_fr h2 hf ?_, fun i e x he hv => ownsRow_fr (h3 i e x he hv) hf ?_⟩
 ·intro g hg hX
  obtain ⟨c, hc⟩ := ownsRow_ty h2 hg
  exact (hx g _ _ _ hX hc).2 rfl
 ·intro g hg hX
  obtain ⟨c, hc⟩ := ownsRow_ty (h3 i e x he hv) hg
  exact (hx g _ _ _ hX hc).1 rfl
theorem OrdAt.next {w w' : World} {lo : Nat} {v : Value} {o : List Elm} (h : OrdAt w lo v o) (hb : Below w.heap.size w w') : OrdAt w' lo v o := h.fr (X := fun _ => False) (.of_below hb) (by rintro _ _ _ _ ⟨⟩)
theorem OrdAt.drew {w : World} {lo : Nat} {v : Value} {o : List Elm} (h : OrdAt w lo v o) : OrdAt w.drew lo v o := h
theorem OrdAt.frR {w w' : World} {R k : Nat} {T : TV} {v1 v2 v3 v4 v5 : Value} {lo : Nat} {v : Value} {o : List Elm} (h : OrdAt w lo v o) (hc : CU w R T k v1 v2 v3 v4 v5) (hf : Fr w w' (· = R)) : OrdAt w' lo v o := by
 refine h.fr hf ?_
 rintro g c z t rfl hg
 rw [hc.1] at hg
 simp at hg
 obtain ⟨-, rfl, -⟩ := hg
 decide
theorem OrdAt.form {w : World} {lo : Nat} {v : Value} {o : List Elm} (h : OrdAt w lo v o) : ∃ A c, v = .slice A o.length c := by
 obtain ⟨vs, h1, h2, _⟩ := h
 rcases Joins.ownsRow_forms h2 with ⟨rfl, h0⟩ | ⟨g, c, rfl⟩
 ·exact ⟨none, 0, by rw [h0]⟩
 ·exact ⟨_, _, rfl⟩
theorem cells_form {w : World} {lo n : Nat} {v : Value} {xs : List Value} {e : TypeId} (h : w.ownsRow lo e 1 v n xs) : ∃ A c, v = .slice A n c := by
 rcases Joins.ownsRow_forms h with ⟨rfl, h0⟩ | ⟨g, c, rfl⟩
 ·exact ⟨none, 0, by rw [h0]⟩
 ·exact ⟨_, _, rfl⟩

set_option maxRecDepth 100000 in
set_option maxHeartbeats 2000000 in
theorem placeOf1_any (W : World) (s : ByteArray) (z : Int) (Ax Ay : Option Addr) (n cx m cy V0 : Nat) (xs ys : List Int) (hx : RI .i32 W W.heap.size Ax n xs) (hy : RI .i32 W W.heap.size Ay m ys) (hV : One W V0 32 (.slice Ay m cy)) (hn : n ≤ 9223372036854775807) :
  Calls Tryz.prog 176 #[.agg #[.string s, .slice Ax n cx, .int .i64 z], .pointer (some ⟨V0, 0, none⟩)] W fun e w' => e = .returned (.bool (sameB xs ys)) ∧ Below W.heap.size W w' := by
 have hb : Below W.heap.size W (W.alloc (.cells #[.string s, .slice Ax n cx, .int .i64 z] 34)) := (Below.refl _ _).alloc (Nat.le_refl _) _
 have heq := equal_any (W.alloc (.cells #[.string s, .slice Ax n cx, .int .i64 z] 34)) _ _ Ax Ay n cx m cy xs ys (hx.keep fun p hp => hb.cell hp) (hy.keep fun p hp => hb.cell hp) hn
 have q0 := hV.cell
 have q1 := (hV.alloc (.cells #[.string s, .slice Ax n cx, .int .i64 z] 34)).cell
 have hl := hV.lt
 have HB := Lib.hid hb
 clear hx hy hV hb
 go_enter Tryz.func176, Tryz.ntmps176
 go_wp2_with (go_at_call 177; refine heq.mono ?_; rintro e w2 ⟨rfl, q, rfl⟩)
 go_ret
 exact ⟨rfl, HB.out.trans ⟨rfl, rfl, rfl, Nat.le_refl _, fun _ _ => rfl⟩⟩

def placeV (o : List Elm) (c : List Int) : Int := match placeL o c with | some i => (i : Int) | none => -1
theorem placeL_found {o : List Elm} {c : List Int} {k : Nat} (hk : k < o.length) (hq : (fun j => match o[j]? with | some e => sameB e.cells c | none => false) k = true) (hm : ∀ j, j < k → (fun j => match o[j]? with | some e => sameB e.cells c | none => false) j = false) : placeL o c = some k := by
 unfold placeL
 rw [List.findIdx?_eq_some_iff_getElem]
 refine ⟨hk, ?_, fun j hj => ?_⟩
 ·simp only [List.getElem?_eq_getElem hk] at hq
  simpa [sameB] using hq
 ·have := hm j hj
  simp only [List.getElem?_eq_getElem (Nat.lt_trans hj hk)] at this
  simpa [sameB] using this
theorem placeL_none {o : List Elm} {c : List Int} (hm : ∀ j, j < o.length → (fun j => match o[j]? with | some e => sameB e.cells c | none => false) j = false) : placeL o c = none := by
 unfold placeL
 rw [List.findIdx?_eq_none_iff]
 intro e he
 obtain ⟨i, hi⟩ := List.getElem?_of_mem he
 have hl : i < o.length := (List.getElem?_eq_some_iff.1 hi).1
 have := hm i hl
 simp only [hi] at this
 simpa [sameB] using this

set_option maxRecDepth 100000 in
set_option maxHeartbeats 2000000 in
theorem placeOf_any (w : World) (lo R : Nat) (T : TV) (k : Nat) (v1 v2 v3 v4 v5 v : Value) (o : List Elm) (c : List Int) (h : CU w R T k v1 v2 v3 v4 v5) (ho : OrdAt w lo v4 o) (hv : w.ownsRow lo 35 1 v c.length (celC c)) (hn : o.length ≤ 2000) :
  Calls Tryz.prog 134 #[.pointer (some ⟨R, 0, none⟩), v] w fun e w' => e = .returned (.int .i64 (placeV o c)) ∧ Below w.heap.size w w' := by
 obtain ⟨A, cap, rfl⟩ := ho.form
 obtain ⟨Av, cv, rfl⟩ := cells_form hv
 obtain ⟨W, hW⟩ : ∃ W, W = w.alloc (.cells #[.slice Av c.length cv] 32) := ⟨_, rfl⟩
 have hb : Below w.heap.size w W := by rw [hW]; exact (Below.refl _ _).alloc (Nat.le_refl _) _
 have hone : One W w.heap.size 32 (.slice Av c.length cv) := by rw [hW]; exact heap_alloc_new w _
 have hoW := ho.next hb
 obtain ⟨vs, h1, h2, h3⟩ := hoW
 have hys : RI .i32 W W.heap.size Av c.length c := by rw [hW]; exact RI.of_own (hv.alloc _)
 have hfind := findPlace_any W W.heap.size A o.length cap (ordR o vs) w.heap.size (fun j => match o[j]? with | some e => sameB e.cells c | none => false) (fun _ w' => Below W.heap.size W w') (fun _ w' => Below W.heap.size W w') (by unfold maxLen; omega) (Below.refl _ _)
  (fun k w' hw => (SI.of_own h2 (ordR_len h1) ordR_each).on hw (Nat.le_refl _))
  (fun k a b z w' hx hw => by
   obtain ⟨e, x, he, hvx, hxe⟩ := ordR_at hx
   simp at hxe
   obtain ⟨rfl, rfl, rfl⟩ := hxe
   have hc := h3 k e b he hvx
   obtain ⟨Ax, cx, rfl⟩ := cells_form hc
   have hxs : RI .i32 W W.heap.size Ax e.cells.length e.cells := RI.of_own hc
   have hl := hw.size
   have hcap : e.cells.length ≤ 9223372036854775807 := by
    rcases hc.2 with ⟨_, h0⟩ | ⟨_, _, _, _, _, _, h5, h6, _⟩
    ·omega
    ·unfold maxLen at h6; omega
   refine (placeOf1_any w' (str e.name) e.same Ax Av e.cells.length cx c.length cv w.heap.size e.cells c ((hxs.keep fun p hp => hw.cell hp).more hl) ((hys.keep fun p hp => hw.cell hp).more hl) ((hw.block _ hone.lt).trans hone) hcap).mono ?_
   rintro e2 w2 ⟨rfl, hb2⟩
   have hw2 : Below W.heap.size W w2 := hw.trans ⟨hb2.os, hb2.tape, hb2.output, hb2.size, fun i hi => hb2.block i (by omega)⟩
   simp only [he]
   exact ⟨rfl, fun _ => hw2, fun _ => hw2⟩)
 have q0 := h.more.2.2.2.1
 have q1 : W.cell? ⟨R, 5, none⟩ = some (.slice A o.length cap) := (h.next hb).more.2.2.2.1
 have hR := h.lt
 have hmf : ∀ (fn : Fn) (first cap : Array Value) (w : World), (Instr.makeFunc fn first cap).run Tryz.prog w = .ok (.func fn first cap) w := fun _ _ _ _ => rfl
 have HB := Lib.hid hb
 rw [hW] at q1
 clear h ho hv hb hone h1 h2 h3 hys
 go_enter Tryz.func134, Tryz.ntmps134
 go_wp2_with fail
 rw [← hW]
 clear hW q1
 refine hfind.mono ?_
 have hbb : ∀ w2, Below W.heap.size W w2 → Below w.heap.size w w2 := fun w2 h2 => HB.out.trans ⟨h2.os, h2.tape, h2.output, h2.size, fun i hi => h2.block i (by have := HB.out.size; omega)⟩
 rintro e w2 (⟨j, hj, hq, hm, rfl, hb2⟩ | ⟨hm, rfl, hb2⟩)
 ·have hp : placeV o c = j := by unfold placeV; rw [placeL_found hj hq hm]
  go_wp2
  go_ret
  rw [hp]
  exact ⟨rfl, hbb _ hb2⟩
 ·have hp : placeV o c = -1 := by unfold placeV; rw [placeL_none hm]
  go_wp2
  go_ret
  rw [hp]
  exact ⟨rfl, hbb _ hb2⟩
end Go.Proofs.YthaibekbefndlaaGreatDoor.C

namespace Go.Proofs.YthaibekbefndlaaGreatDoor.C
open Go.RowKit

theorem own_one (W : World) (lo : Nat) (c : Int) (g : Nat) (hg : W.heap.size = g) (hlo : lo ≤ W.heap.size) : (W.alloc (.cells #[.int .i32 c] 35)).ownsRow lo 35 1 (.slice (some ⟨g, 0, none⟩) 1 1) 1 (celC [c]) := by
 subst hg
 exact ⟨rfl, .inr ⟨_, 1, #[.int .i32 c], rfl, hlo, heap_alloc_new W _, Nat.le_refl _, by unfold maxLen; omega, rfl, rfl⟩⟩
def CoTold (w : World) (lo : Nat) : Except Er (List Int) → Ending → World → Prop
 | .ok c, e, w' => (∃ v, e = .returned v ∧ w'.ownsRow lo 35 1 v c.length (celC c)) ∧ Below w.heap.size w w'
 | .error er, e, w' => e = .panicked (faultV er.1 er.2) ∧ Below w.heap.size w w'
set_option maxRecDepth 100000 in
set_option maxHeartbeats 4000000 in
theorem cellsOf_any (w : World) (lo R : Nat) (T : TV) (k : Nat) (v1 v2 v3 v4 : Value) (M : Nat) (d : List (List UInt8 × List Int)) (x : Tok) (h : CU w R T k v1 v2 v3 v4 (.map (some M))) (hd : DeAt w lo M d) (hx : x.n ≤ 1114111) (hlw : lo ≤ w.heap.size) :
  Calls Tryz.prog 133 #[.pointer (some ⟨R, 0, none⟩), tkV x] w (CoTold w lo (itemL d x)) := by
 obtain ⟨xk, xt, xn, xa⟩ := x
 simp only at hx
 have hR := h.lt
 obtain ⟨X, hX⟩ : ∃ X, X = itemL d ⟨xk, xt, xn, xa⟩ := ⟨_, rfl⟩
 rw [← hX]
 unfold itemL at hX
 simp only at hX
 obtain ⟨W1, hW1⟩ : ∃ W1, W1 = w.alloc (.cells #[.int .u8 xk, .string (str xt), .int .i64 xn, .int .i64 xa] 92) := ⟨_, rfl⟩
 have hb1 : Below w.heap.size w W1 := by rw [hW1]; exact (Below.refl _ _).alloc (Nat.le_refl _) _
 have hs1 : W1.heap.size = w.heap.size + 1 := by rw [hW1]; simp
 by_cases hk : xk = 3
 ·subst hk
  rw [if_pos rfl] at hX
  subst hX
  have n0 : (0 : Int) ≤ (xn : Int) := by omega
  have n1 : (xn : Int) ≤ 1114111 := by omega
  have e1 : IntKind.i32.wrap (xn : Int) = (xn : Int) := wrap32 n0 n1
  have hown := own_one W1 lo xn (w.heap.size + 1) hs1 (by omega)
  have hb2 : Below w.heap.size w (W1.alloc (.cells #[.int .i32 xn] 35)) := hb1.trans ((Below.refl _ _).alloc (by omega) _)
  have HO := Lib.hid hown
  have HB := Lib.hid hb2
  rw [hW1] at HO HB
  clear h hd hb1 hs1 hW1 hown hb2
  unfold tkV
  go_enter Tryz.func133, Tryz.ntmps133
  go_wp2
  go_ret
  exact ⟨⟨_, rfl, HO.out⟩, HB.out⟩
 ·rw [if_neg hk] at hX
  have hk' : ¬ (xk : Int) = 3 := by omega
  have hc1 := (h.next hb1)
  have ht1 : LTk W1 w.heap.size ⟨xk, xt, xn, xa⟩ := by rw [hW1]; exact LTk.new w ⟨xk, xt, xn, xa⟩
  have HC1 := Lib.hid hc1
  have HT1 := Lib.hid ht1
  have hde := (hd.next hb1).drew
  have HB := Lib.hid hb1
  cases hl : lookD d xt with
  | some c =>
   rw [hl] at hX
   simp only at hX
   subst hX
   obtain ⟨v, hv, hlk⟩ := hde.yes hl
   have HV := Lib.hid hv
   clear h hd hb1 hc1 ht1 hde hl hk hv
   unfold tkV
   go_enter Tryz.func133, Tryz.ntmps133
   go_wp2
   rw [← hW1]
   have q1 := HC1.out.drew.more.2.2.2.2
   obtain ⟨t0, t1, t2, t3⟩ := HT1.out.drew.cells
   clear hW1
   go_region_held3 (fun w' => w'.cell? ⟨R, 6, none⟩ = some (.map (some M)) ∧ w'.cell? ⟨w.heap.size, 1, none⟩ = some (.string (str xt))) (go_keep) (fail)
   go_wp2
   go_ret
   exact ⟨⟨v, rfl, HV.out⟩, HB.out.trans ⟨rfl, rfl, rfl, Nat.le_refl _, fun _ _ => rfl⟩⟩
  | none =>
   rw [hl] at hX
   simp only at hX
   subst hX
   have hlk := hde.no hl
   have hrf := fun W => refuse_any 31 ⟨xk, xt, xn, xa⟩ W
   unfold tkV at hrf
   clear h hd hb1 hc1 ht1 hde hl hk
   unfold tkV
   go_enter Tryz.func133, Tryz.ntmps133
   go_wp2
   rw [← hW1]
   have q1 := HC1.out.drew.more.2.2.2.2
   obtain ⟨t0, t1, t2, t3⟩ := HT1.out.drew.cells
   clear hW1
   go_region_held3 (fun w' => w'.cell? ⟨R, 6, none⟩ = some (.map (some M)) ∧ w'.cell? ⟨w.heap.size, 1, none⟩ = some (.string (str xt))) (go_keep) (fail)
   go_wp2_with fail
   refine (hrf _).mono ?_
   rintro e w2 ⟨rfl, hb2⟩
   exact ⟨rfl, rfl, HB.out.trans ⟨hb2.os, hb2.tape, hb2.output, hb2.size, fun i hi => hb2.block i (by show i < W1.heap.size; omega)⟩⟩
end Go.Proofs.YthaibekbefndlaaGreatDoor.C

namespace Go.Proofs.YthaibekbefndlaaGreatDoor.C
open Go.RowKit

theorem trip_new (w : World) (k : Nat) (a b c : Value) (t : TypeId) (hk : w.heap.size = k) : ∀ j u, [a, b, c][j]? = some u → (w.alloc (.cells #[a, b, c] t)).cell? ((⟨k, 0, none⟩ : Addr).add j) = some u := by
 subst hk
 intro j u hu
 rw [add_plain, Nat.zero_add, World.cell?_alloc_new]
 simpa using hu
theorem infoElem : (Tryz.prog.info? 34).map (fun i => (i.zero, i.size, i.bytes)) = some (some (.agg #[.string (str []), .slice none 0 0, .int .i64 0]), 3, 48) := by kernel_rfl
theorem OrdAt.snoc {w w' : World} {lo g cap : Nat} {v x : Value} {o : List Elm} {vs : List Value} (c : Elm) (h1 : vs.length = o.length) (h2 : w.ownsRow lo 34 3 v o.length (ordR o vs).flatten) (h3 : ∀ (i : Nat) (e : Elm) (x : Value), o[i]? = some e → vs[i]? = some x → w.ownsRow lo 35 1 x e.cells.length (celC e.cells))
  (hx : w.ownsRow lo 35 1 x c.cells.length (celC c.cells))
  (hg : w.grownBy w' v.ownBlock) (ho : w'.ownsRow lo 34 3 (.slice (some ⟨g, 0, none⟩) (o.length + 1) cap) (o.length + 1) ((ordR o vs).flatten ++ [.string (str c.name), x, .int .i64 c.same])) :
  OrdAt w' lo (.slice (some ⟨g, 0, none⟩) (o.length + 1) cap) (o ++ [c]) := by
 have key : ∀ {n : Nat} {u : Value} {xs : List Value}, w.ownsRow lo 35 1 u n xs → w'.ownsRow lo 35 1 u n xs := fun hu => hu.kept hg (by
  rcases hb : (Value.ownBlock _) with _ | g1
  ·exact .inl rfl
  ·refine .inr fun e => ?_
   obtain ⟨c1, hc1⟩ := ownsRow_ty hu hb
   obtain ⟨c2, hc2⟩ := ownsRow_ty h2 e.symm
   rw [hc1] at hc2
   injection hc2 with hc2
   injection hc2 with _ hc2
   cases hc2)
 refine ⟨vs ++ [x], by simp [h1], by rw [ordR_snoc h1, List.length_append, List.flatten_append]; simpa using ho, ?_⟩
 intro i d y hd hy
 rcases Nat.lt_or_ge i o.length with hi | hi
 ·rw [List.getElem?_append_left hi] at hd
  rw [List.getElem?_append_left (by omega)] at hy
  exact key (h3 i d y hd hy)
 ·rw [List.getElem?_append_right hi] at hd
  rw [List.getElem?_append_right (by omega), h1] at hy
  have e0 : i - o.length = 0 := by
   rcases hq : i - o.length with _ | q
   ·rfl
   ·rw [hq] at hd
    simp at hd
  rw [e0] at hd hy
  simp at hd hy
  subst hd hy
  exact key hx
def AdTold (w : World) (lo R : Nat) (T : TV) (k : Nat) (v1 v2 v3 v4 v5 : Value) (x : Tok) (o : List Elm) (c : List Int) (e : Ending) (w' : World) : Prop :=
 (o.length = 500 ∧ e = .panicked (faultV 3 x.at_) ∧ Below w.heap.size w w') ∨
 (o.length ≠ 500 ∧ e = .returned (.tuple #[]) ∧ (∃ u4, CU w' R T k v1 v2 v3 u4 v5 ∧ OrdAt w' lo u4 (o ++ [⟨x.t, c, o.length⟩]) ∧ ∀ g, u4.ownBlock = some g → v4.ownBlock = some g ∨ w.heap.size ≤ g) ∧ Fr w w' (fun j => j = R ∨ v4.ownBlock = some j))
set_option maxRecDepth 100000 in
set_option maxHeartbeats 8000000 in
theorem addElem_any (w : World) (lo R : Nat) (T : TV) (k : Nat) (v1 v2 v3 v4 v5 v : Value) (x : Tok) (o : List Elm) (c : List Int) (h : CU w R T k v1 v2 v3 v4 v5) (ho : OrdAt w lo v4 o) (hv : w.ownsRow lo 35 1 v c.length (celC c)) (hn : o.length ≤ 2000) (hlo : R < lo) (hlw : lo ≤ w.heap.size) :
  Calls Tryz.prog 135 #[.pointer (some ⟨R, 0, none⟩), tkV x, v] w (AdTold w lo R T k v1 v2 v3 v4 v5 x o c) := by
 obtain ⟨A, cap, rfl⟩ := ho.form
 obtain ⟨Av, cv, rfl⟩ := cells_form hv
 obtain ⟨W1, hW1⟩ : ∃ W1, W1 = w.alloc (.cells #[.int .u8 x.k, .string (str x.t), .int .i64 x.n, .int .i64 x.at_] 92) := ⟨_, rfl⟩
 have hb1 : Below w.heap.size w W1 := by rw [hW1]; exact (Below.refl _ _).alloc (Nat.le_refl _) _
 have hs1 : W1.heap.size = w.heap.size + 1 := by rw [hW1]; simp
 have HT1 : Hid (LTk W1 w.heap.size x) := Lib.hid (by rw [hW1]; exact LTk.new w x)
 have HC1 := Lib.hid (h.next hb1)
 have HB1 := Lib.hid hb1
 have hR := h.lt
 have n0 : (0 : Int) ≤ (o.length : Int) := by omega
 by_cases hfull : o.length = 500
 ·have i5 : (o.length : Int) = 500 := by omega
  have hrf := fun W => refuse_any 3 x W
  unfold tkV at hrf
  have q0 := (h.next hb1).more.2.2.2.1
  obtain ⟨t0, t1, t2, t3⟩ := HT1.out.cells
  rw [hW1] at q0 t0 t1 t2 t3
  clear h ho hv hb1 hs1
  unfold tkV
  go_enter Tryz.func135, Tryz.ntmps135
  go_wp2_with fail
  rw [← hW1]
  refine (hrf _).mono ?_
  rintro e w2 ⟨rfl, hb2⟩
  exact ⟨rfl, .inl ⟨hfull, rfl, HB1.out.trans ⟨hb2.os, hb2.tape, hb2.output, hb2.size, fun i hi => hb2.block i (by have := HB1.out.size; omega)⟩⟩⟩
 have i5 : ¬ (o.length : Int) = 500 := by omega
 have HNF := Lib.hid hfull
 obtain ⟨i0, hi, hz0, hz1, hz2⟩ := info_parts infoElem
 obtain ⟨vs, hv1, hv2, hv3⟩ := ho.next hb1
 have HVS := Lib.hid hv1
 have HO1 := Lib.hid hv2
 have HV3 := Lib.hid hv3
 have hvk : W1.ownsRow lo 35 1 (.slice Av c.length cv) c.length (celC c) := by rw [hW1]; exact hv.alloc _
 have HVK := Lib.hid hvk
 have HRW : Hid (∀ g, (Value.slice A o.length cap).ownBlock = some g → R < g) := Lib.hid fun g hg => by have := (hv2.lt g hg).1; omega
 have HNT : Hid (some w.heap.size ≠ (Value.slice A o.length cap).ownBlock) := Lib.hid (row_ne hv2 HT1.out (by decide)).symm
 have q0 := (h.next hb1).more.2.2.2.1
 rw [hW1] at q0
 have q2 := h.more.2.2.2.1
 clear h ho hv hb1 hv1 hv2 hv3 hvk hfull
 unfold tkV
 go_enter Tryz.func135, Tryz.ntmps135
 go_wp2_with fail
 rw [← hW1]
 clear hW1 q0 q2
 refine wp_region_E (S := fun W => W.cell? ⟨R, 5, none⟩ = some (.slice A o.length cap) ∧ W.cell? ⟨w.heap.size, 1, none⟩ = some (.string (str x.t))) (L := 21) (by kernel_rfl) ?_
 have hS1 : (fun W : World => W.cell? ⟨R, 5, none⟩ = some (.slice A o.length cap) ∧ W.cell? ⟨w.heap.size, 1, none⟩ = some (.string (str x.t))) W1.drew := ⟨HC1.out.more.2.2.2.1, HT1.out.cells.2.1⟩
 refine wpAnyE_take (i := 0) (oi := ?oi0) (v := ?v0) ?hi0 (by kernel_rfl) (by kernel_rfl) (by kernel_rfl) (by kernel_rfl) ?hq0 (Or.inl ⟨?hw0, ?hy0⟩) (by assumption) ?rest0
 case hi0 => exact rfl
 case hq0 => exact fun _ _ _ h => h
 case hw0 => rfl
 case hy0 => (intro x hx; (try dsimp only at hx); simp only [List.getElem_toArray, List.getElem_cons_zero]; go_split_ands; go_simp; try with_reducible rfl)
 try simp only [Act.put, List.setIfInBounds_toArray, List.set_cons_zero, List.set_cons_succ, List.getElem_toArray, List.getElem_cons_zero]
 refine wpAnyE_take (i := 1) (oi := ?oi1) (v := ?v1) ?hi1 (by kernel_rfl) (by kernel_rfl) (by kernel_rfl) (by kernel_rfl) ?hq1 (Or.inl ⟨?hw1, ?hy1⟩) (by assumption) ?rest1
 case hi1 => exact rfl
 case hq1 => exact fun _ _ _ h => h
 case hw1 => rfl
 case hy1 => (intro x hx; (try dsimp only at hx); simp only [List.getElem_toArray, List.getElem_cons_succ, List.getElem_cons_zero]; go_split_ands; go_simp; try with_reducible rfl)
 try simp only [Act.put, List.setIfInBounds_toArray, List.set_cons_zero, List.set_cons_succ, List.getElem_toArray, List.getElem_cons_succ, List.getElem_cons_zero]
 refine wpAnyE_take (i := 2) (oi := ?oi2) (v := ?v2) ?hi2 (by kernel_rfl) (by kernel_rfl) (by kernel_rfl) (by kernel_rfl) ?hq2 (Or.inl ⟨?hw2, ?hy2⟩) (by assumption) ?rest2
 case hi2 => exact rfl
 case hq2 => exact fun _ _ _ h => h
 case hw2 => rfl
 case hy2 => (intro x hx; (try dsimp only at hx); simp only [List.getElem_toArray, List.getElem_cons_succ, List.getElem_cons_zero]; go_split_ands; go_simp; try with_reducible rfl)
 try simp only [Act.put, List.setIfInBounds_toArray, List.set_cons_zero, List.set_cons_succ, List.getElem_toArray, List.getElem_cons_succ, List.getElem_cons_zero]
 refine wpAnyE_take (i := 3) (oi := ?oi3) (v := ?v3) ?hi3 (by kernel_rfl) (by kernel_rfl) (by kernel_rfl) (by kernel_rfl) ?hq3 (Or.inl ⟨?hw3, ?hy3⟩) (by assumption) ?rest3
 case hi3 => exact rfl
 case hq3 => exact fun _ _ _ h => h
 case hw3 => rfl
 case hy3 => (intro x hx; (try dsimp only at hx); simp only [List.getElem_toArray, List.getElem_cons_succ, List.getElem_cons_zero]; go_split_ands; go_simp; try with_reducible rfl)
 try simp only [Act.put, List.setIfInBounds_toArray, List.set_cons_zero, List.set_cons_succ, List.getElem_toArray, List.getElem_cons_succ, List.getElem_cons_zero]
 refine wpAnyE_take (i := 4) (oi := ?oi4) (v := ?v4) ?hi4 (by kernel_rfl) (by kernel_rfl) (by kernel_rfl) (by kernel_rfl) ?hq4 (Or.inl ⟨?hw4, ?hy4⟩) (by assumption) ?rest4
 case hi4 => exact rfl
 case hq4 => exact fun _ _ _ h => h
 case hw4 => rfl
 case hy4 => (intro x hx; (try dsimp only at hx); simp only [List.getElem_toArray, List.getElem_cons_succ, List.getElem_cons_zero]; go_split_ands; go_simp; try with_reducible rfl)
 try simp only [Act.put, List.setIfInBounds_toArray, List.set_cons_zero, List.set_cons_succ, List.getElem_toArray, List.getElem_cons_succ, List.getElem_cons_zero]
 refine wpAnyE_take (i := 5) (oi := ?oi5) (v := ?v5) ?hi5 (by kernel_rfl) (by kernel_rfl) (by kernel_rfl) (by kernel_rfl) ?hq5 (Or.inl ⟨?hw5, ?hy5⟩) (by assumption) ?rest5
 case hi5 => exact rfl
 case hq5 => exact fun _ _ _ h => h
 case hw5 => rfl
 case hy5 => (intro x hx; (try dsimp only at hx); simp only [List.getElem_toArray, List.getElem_cons_succ, List.getElem_cons_zero]; go_split_ands; go_simp; try with_reducible rfl)
 try simp only [Act.put, List.setIfInBounds_toArray, List.set_cons_zero, List.set_cons_succ, List.getElem_toArray, List.getElem_cons_succ, List.getElem_cons_zero]
 refine wpAnyE_take (i := 6) (oi := ?oi6) (v := ?v6) ?hi6 (by kernel_rfl) (by kernel_rfl) (by kernel_rfl) (by kernel_rfl) ?hq6 (Or.inl ⟨?hw6, ?hy6⟩) (by assumption) ?rest6
 case hi6 => exact rfl
 case hq6 => exact fun _ _ _ h => h
 case hw6 => rfl
 case hy6 => (intro x hx; (try dsimp only at hx); simp only [List.getElem_toArray, List.getElem_cons_succ, List.getElem_cons_zero]; go_split_ands; go_simp; try with_reducible rfl)
 try simp only [Act.put, List.setIfInBounds_toArray, List.set_cons_zero, List.set_cons_succ, List.getElem_toArray, List.getElem_cons_succ, List.getElem_cons_zero]
 refine wpAnyE_take (i := 7) (oi := ?oi7) (v := ?v7) ?hi7 (by kernel_rfl) (by kernel_rfl) (by kernel_rfl) (by kernel_rfl) ?hq7 (Or.inl ⟨?hw7, ?hy7⟩) (by assumption) ?rest7
 case hi7 => exact rfl
 case hq7 => exact fun _ _ _ h => h
 case hw7 => rfl
 case hy7 => (intro x hx; (try dsimp only at hx); simp only [List.getElem_toArray, List.getElem_cons_succ, List.getElem_cons_zero]; go_split_ands; go_simp; try with_reducible rfl)
 try simp only [Act.put, List.setIfInBounds_toArray, List.set_cons_zero, List.set_cons_succ, List.getElem_toArray, List.getElem_cons_succ, List.getElem_cons_zero]
 refine wpAnyE_take (i := 8) (oi := ?oi8) (v := ?v8) ?hi8 (by kernel_rfl) (by kernel_rfl) (by kernel_rfl) (by kernel_rfl) ?hq8 (Or.inl ⟨?hw8, ?hy8⟩) (by assumption) ?rest8
 case hi8 => exact rfl
 case hq8 => exact fun _ _ _ h => h
 case hw8 => rfl
 case hy8 => (intro x hx; (try dsimp only at hx); simp only [List.getElem_toArray, List.getElem_cons_succ, List.getElem_cons_zero]; go_split_ands; go_simp; try with_reducible rfl)
 try simp only [Act.put, List.setIfInBounds_toArray, List.set_cons_zero, List.set_cons_succ, List.getElem_toArray, List.getElem_cons_succ, List.getElem_cons_zero]
 refine wpAnyE_take (i := 9) (oi := ?oi9) (v := ?v9) ?hi9 (by kernel_rfl) (by kernel_rfl) (by kernel_rfl) (by kernel_rfl) ?hq9 (Or.inl ⟨?hw9, ?hy9⟩) (by assumption) ?rest9
 case hi9 => exact rfl
 case hq9 => exact fun _ _ _ h => h
 case hw9 => rfl
 case hy9 => (intro x hx; (try dsimp only at hx); simp only [List.getElem_toArray, List.getElem_cons_succ, List.getElem_cons_zero]; go_split_ands; go_simp; try with_reducible rfl)
 try simp only [Act.put, List.setIfInBounds_toArray, List.set_cons_zero, List.set_cons_succ, List.getElem_toArray, List.getElem_cons_succ, List.getElem_cons_zero]
 refine wpAnyE_take (i := 10) (oi := ?oi10) (v := ?v10) ?hi10 (by kernel_rfl) (by kernel_rfl) (by kernel_rfl) (by kernel_rfl) ?hq10 (Or.inl ⟨?hw10, ?hy10⟩) (by assumption) ?rest10
 case hi10 => exact rfl
 case hq10 => exact fun _ _ _ h => h
 case hw10 => rfl
 case hy10 => (intro x hx; (try dsimp only at hx); simp only [List.getElem_toArray, List.getElem_cons_succ, List.getElem_cons_zero]; go_split_ands; go_simp; try with_reducible rfl)
 try simp only [Act.put, List.setIfInBounds_toArray, List.set_cons_zero, List.set_cons_succ, List.getElem_toArray, List.getElem_cons_succ, List.getElem_cons_zero]
 refine wpAnyE_take (i := 11) (oi := ?oi11) (v := ?v11) ?hi11 (by kernel_rfl) (by kernel_rfl) (by kernel_rfl) (by kernel_rfl) ?hq11 (Or.inl ⟨?hw11, ?hy11⟩) (by assumption) ?rest11
 case hi11 => exact rfl
 case hq11 => exact fun _ _ _ h => h
 case hw11 => rfl
 case hy11 => (intro x hx; (try dsimp only at hx); simp only [List.getElem_toArray, List.getElem_cons_succ, List.getElem_cons_zero]; go_split_ands; go_simp; try with_reducible rfl)
 try simp only [Act.put, List.setIfInBounds_toArray, List.set_cons_zero, List.set_cons_succ, List.getElem_toArray, List.getElem_cons_succ, List.getElem_cons_zero]
 refine wpAnyE_take (i := 12) (oi := ?oi12) (v := ?v12) ?hi12 (by kernel_rfl) (by kernel_rfl) (by kernel_rfl) (by kernel_rfl) ?hq12 (Or.inl ⟨?hw12, ?hy12⟩) (by assumption) ?rest12
 case hi12 => exact rfl
 case hq12 => exact fun _ _ _ h => h
 case hw12 => rfl
 case hy12 => (intro x hx; (try dsimp only at hx); simp only [List.getElem_toArray, List.getElem_cons_succ, List.getElem_cons_zero]; go_split_ands; go_simp; try with_reducible rfl)
 try simp only [Act.put, List.setIfInBounds_toArray, List.set_cons_zero, List.set_cons_succ, List.getElem_toArray, List.getElem_cons_succ, List.getElem_cons_zero]
 refine wpAnyE_take (i := 13) (oi := ?oi13) (v := ?v13) ?hi13 (by kernel_rfl) (by kernel_rfl) (by kernel_rfl) (by kernel_rfl) ?hq13 (Or.inl ⟨?hw13, ?hy13⟩) (by assumption) ?rest13
 case hi13 => exact rfl
 case hq13 => exact fun _ _ _ h => h
 case hw13 => rfl
 case hy13 => (intro x hx; (try dsimp only at hx); simp only [List.getElem_toArray, List.getElem_cons_succ, List.getElem_cons_zero]; go_split_ands; go_simp; try with_reducible rfl)
 try simp only [Act.put, List.setIfInBounds_toArray, List.set_cons_zero, List.set_cons_succ, List.getElem_toArray, List.getElem_cons_succ, List.getElem_cons_zero]
 refine wpAnyE_one (i := 14) (by kernel_rfl) rfl (fun K hK => ?_)
 go_simp
 refine hK.out _ _ (fun _ => hS1) (fun hS => ?_)
 replace hS := hS (by decide)
 refine wpAnyE_take (i := 15) (oi := ?oi15) (v := ?v15) ?hi15 (by kernel_rfl) (by kernel_rfl) (by kernel_rfl) (by kernel_rfl) ?hq15 (Or.inl ⟨?hw15, ?hy15⟩) (by assumption) ?rest15
 case hi15 => exact rfl
 case hq15 => exact fun _ _ _ h => h
 case hw15 => rfl
 case hy15 => (intro x hx; (try dsimp only at hx); simp only [List.getElem_toArray, List.getElem_cons_succ, List.getElem_cons_zero]; go_split_ands; go_simp; try with_reducible rfl)
 try simp only [Act.put, List.setIfInBounds_toArray, List.set_cons_zero, List.set_cons_succ, List.getElem_toArray, List.getElem_cons_succ, List.getElem_cons_zero]
 refine wpAnyE_one (i := 16) (by kernel_rfl) rfl (fun K hK => ?_)
 simp only [List.getElem_toArray, List.getElem_cons_succ, List.getElem_cons_zero]
 go_simp
 refine hK.out _ _ (fun _ => ⟨(HC1.out.drew.alloc (.cells #[.string (str x.t), .slice Av c.length cv, .int .i64 o.length] 34)).more.2.2.2.1, (HT1.out.drew.alloc (.cells #[.string (str x.t), .slice Av c.length cv, .int .i64 o.length] 34)).cells.2.1⟩) (fun hS => ?_)
 replace hS := hS (by decide)
 refine wpAnyE_one (i := 17) (by kernel_rfl) rfl (fun K hK => ?_)
 refine step_append_lies _ (by rfl) _ _ _ (by rfl) lo 34 i0 (.agg #[.string (str []), .slice none 0 0, .int .i64 0]) 3 48 Tryz.underlying24 hi hz0 hz1 hz2 rfl (by decide) (.slice A o.length cap) o.length (ordR o vs).flatten (by rfl) (HO1.out.drew.alloc _) ⟨w.heap.size + 1, 0, none⟩ 1 1 [.string (str x.t), .slice Av c.length cv, .int .i64 o.length] (by rfl) (by rfl) (trip_new _ _ _ _ _ _ hs1) (by intro u hu; simp at hu; rcases hu with rfl | rfl | rfl <;> rfl) (by omega) (by unfold maxLen; omega) (by omega) (by simp; omega) (w.heap.size + 1 + 1) (by simp [hs1]) ?_
 intro g cap2 w5 hown5 hgr5 hat5 hlt5
 have HG5 := Lib.hid hgr5
 have HO5 := Lib.hid hown5
 have HAT5 := Lib.hid hat5
 have HC5 := Lib.hid ((HC1.out.drew.alloc (.cells #[.string (str x.t), .slice Av c.length cv, .int .i64 o.length] 34)).kept hgr5 HRW.out)
 have p5 := HC5.out.one 5
 have hS5 : w5.cell? ⟨R, 5, none⟩ = some (.slice A o.length cap) ∧ w5.cell? ⟨w.heap.size, 1, none⟩ = some (.string (str x.t)) := by
  refine ⟨HC5.out.more.2.2.2.1, ?_⟩
  exact (LTk.cells ((hgr5.block w.heap.size (by simp; have := HT1.out.lt; omega) HNT.out).trans (HT1.out.drew.alloc (.cells #[.string (str x.t), .slice Av c.length cv, .int .i64 o.length] 34)))).2.1
 clear hown5 hgr5 hat5
 refine hK.out _ _ (fun _ => hS5) (fun hS => ?_)
 replace hS := hS (by decide)
 refine wpAnyE_one (i := 18) (by kernel_rfl) rfl (fun K hK => ?_)
 simp only [List.getElem_toArray, List.getElem_cons_succ, List.getElem_cons_zero]
 go_simp
 refine hK.out _ _ (fun _ => hS5) (fun hS => ?_)
 replace hS := hS (by decide)
 refine wpAnyE_one (i := 19) (by kernel_rfl) rfl (fun K hK => ?_)
 simp only [List.getElem_toArray, List.getElem_cons_succ, List.getElem_cons_zero]
 go_simp
 refine hK.out _ _ (fun _ => hS5) (fun hS => ?_)
 replace hS := hS (by decide)
 refine wpAnyE_take (i := 20) (oi := ?oi20) (v := ?v20) ?hi20 (by kernel_rfl) (by kernel_rfl) (by kernel_rfl) (by kernel_rfl) ?hq20 (Or.inl ⟨?hw20, ?hy20⟩) (by assumption) ?rest20
 case hi20 => exact rfl
 case hq20 => exact fun _ _ _ h => h
 case hw20 => rfl
 case hy20 => (intro x hx; (try dsimp only at hx); simp only [List.getElem_toArray, List.getElem_cons_succ, List.getElem_cons_zero]; go_split_ands; go_simp; try with_reducible rfl)
 try simp only [Act.put, List.setIfInBounds_toArray, List.set_cons_zero, List.set_cons_succ, List.getElem_toArray, List.getElem_cons_succ, List.getElem_cons_zero]
 refine wpAnyE_one (i := 21) (by kernel_rfl) rfl (fun K hK => ?_)
 simp only [List.getElem_toArray, List.getElem_cons_succ, List.getElem_cons_zero]
 go_simp
 refine hK.out _ _ (fun h => absurd rfl h) (fun _ => ?_)
 refine wpAnyE_done (by kernel_rfl) ?_ _
 have hf5 : Fr w w5 (fun j => (Value.slice A o.length cap).ownBlock = some j) := ((Fr.of_below HB1.out).drew.alloc (.cells #[.string (str x.t), .slice Av c.length cv, .int .i64 o.length] 34)).next (Fr.of_grown HG5.out) (fun _ _ e => e)
 have hcl5 := OrdAt.snoc (cap := cap2) (g := g) ⟨x.t, c, o.length⟩ HVS.out (HO1.out.drew.alloc (.cells #[.string (str x.t), .slice Av c.length cv, .int .i64 o.length] 34)) (fun i c x hc hx => (HV3.out i c x hc hx).drew.alloc _) (HVK.out.drew.alloc _) HG5.out HO5.out
 have hset : Fr w5 (w5.setCell ⟨R, 5, none⟩ (.slice (some ⟨g, 0, none⟩) (o.length + 1) cap2)) (· = R) := (Fr.of_below (Below.refl _ w5)).set _ _ (fun _ => rfl)
 go_end0
 refine .inr ⟨HNF.out, rfl, ⟨_, HC5.out.set4 _, hcl5.frR HC5.out hset, ?_⟩, (hf5.mono fun j _ e => .inr e).next hset (fun j _ e => .inl e)⟩
 intro j e
 have e2 : g = j := by injection e
 subst e2
 rcases HAT5.out with e | e
 ·exact .inl e
 ·exact .inr (by omega)
end Go.Proofs.YthaibekbefndlaaGreatDoor.C

namespace Go.Proofs.YthaibekbefndlaaGreatDoor.C
open Go.RowKit

theorem flat_set {sz : Nat} : ∀ {xs : List (List Value)} {j i : Nat} {x : List Value} (u : Value), (∀ x ∈ xs, x.length = sz) → xs[j]? = some x → i < sz → xs.flatten.set (j * sz + i) u = (xs.set j (x.set i u)).flatten
 | [], j, i, x, u, _, hx, _ => by simp at hx
 | y :: r, 0, i, x, u, h, hx, hi => by
  simp at hx
  subst hx
  have hy := h y (by simp)
  rw [List.flatten_cons, Nat.zero_mul, Nat.zero_add, List.set_append_left _ _ (by omega), List.set_cons_zero, List.flatten_cons]
 | y :: r, j + 1, i, x, u, h, hx, hi => by
  have hy := h y (by simp)
  rw [List.flatten_cons, List.set_append_right _ _ (by rw [hy, Nat.succ_mul]; omega), hy, List.set_cons_succ, List.flatten_cons]
  rw [show (j + 1) * sz + i - sz = j * sz + i by rw [Nat.succ_mul]; omega]
  rw [flat_set u (fun z hz => h z (List.mem_cons_of_mem _ hz)) (by simpa using hx) hi]
def markL (o : List Elm) (i : Nat) (z : Int) : List Elm := match o[i]? with
 | some e => o.set i { e with same := z }
 | none => o
theorem markL_len (o : List Elm) (i : Nat) (z : Int) : (markL o i z).length = o.length := by unfold markL; split <;> simp
theorem zip_set {o : List Elm} {vs : List Value} {i : Nat} {e : Elm} {v : Value} (hv : vs[i]? = some v) : (o.set i e).zip vs = (o.zip vs).set i (e, v) := by
 apply List.ext_getElem?
 intro j
 rw [List.getElem?_set]
 by_cases hj : i = j
 ·subst hj
  have hi : i < vs.length := (List.getElem?_eq_some_iff.1 hv).1
  by_cases ho : i < o.length
  ·rw [if_pos rfl, if_pos (by simp; omega), List.getElem?_zip_eq_some]
   exact ⟨by simp [ho], hv⟩
  ·rw [if_pos rfl, if_neg (by simp; omega)]
   rw [List.getElem?_eq_none (by simp; omega)]
 ·rw [if_neg hj]
  simp only [List.zip, List.getElem?_zipWith, List.getElem?_set_ne hj]
theorem ordR_mark {o : List Elm} {vs : List Value} (h : vs.length = o.length) {i : Nat} {e : Elm} (he : o[i]? = some e) (z : Int) : (ordR o vs).flatten.set (i * 3 + 2) (.int .i64 z) = (ordR (markL o i z) vs).flatten := by
 have hi : i < o.length := (List.getElem?_eq_some_iff.1 he).1
 have hv : vs[i]? = some (vs[i]'(by omega)) := by simp
 have hx : (ordR o vs)[i]? = some [.string (str e.name), vs[i]'(by omega), .int .i64 e.same] := by
  unfold ordR
  have hz : (o.zip vs)[i]? = some (e, vs[i]'(by omega)) := List.getElem?_zip_eq_some.2 ⟨he, hv⟩
  rw [List.getElem?_map, hz]
  rfl
 rw [flat_set (.int .i64 z) ordR_each hx (by omega)]
 congr 1
 unfold markL
 rw [he]
 unfold ordR
 rw [zip_set hv, List.map_set]
 rfl
theorem ownsRow_mark {w : World} {base sz n c g j : Nat} {e : TypeId} {xs : List Value} (h : w.ownsRow base e sz (.slice (some ⟨g, 0, none⟩) n c) n xs) (u : Value) : (w.setCell ⟨g, j, none⟩ u).ownsRow base e sz (.slice (some ⟨g, 0, none⟩) n c) n (xs.set j u) := by
 obtain ⟨h1, h2⟩ := h
 rcases h2 with ⟨h0, _⟩ | ⟨g', cap, cur, hv, hg, hh, hc, hm, hs, ht⟩
 ·cases h0
 ·injection hv with hv _ hv2
  injection hv with hv
  injection hv with hv
  subst hv hv2
  refine ⟨by simpa using h1, .inr ⟨g, c, (cur.toList.set j u).toArray, rfl, hg, ?_, hc, hm, by simpa using hs, ?_⟩⟩
  ·have := set_row (w := w) (R := g) (i := j) (l := cur.toList) (t := e) (by simpa using hh) u
   simpa using this
  ·rw [List.toList_toArray, List.take_set, ht]
theorem OrdAt.mark {w : World} {lo g c j : Nat} {o : List Elm} {e : Elm} (h : OrdAt w lo (.slice (some ⟨g, 0, none⟩) o.length c) o) (he : o[j]? = some e) (z : Int) : OrdAt (w.setCell ⟨g, j * 3 + 2, none⟩ (.int .i64 z)) lo (.slice (some ⟨g, 0, none⟩) o.length c) (markL o j z) := by
 obtain ⟨vs, h1, h2, h3⟩ := h
 have hj : j < o.length := (List.getElem?_eq_some_iff.1 he).1
 refine ⟨vs, by rw [markL_len]; exact h1, ?_, ?_⟩
 ·rw [markL_len, ← ordR_mark h1 he]
  exact ownsRow_mark h2 _
 ·intro i d y hd hy
  have hd' : ∃ d', o[i]? = some d' ∧ d'.cells = d.cells := by
   unfold markL at hd
   rw [he] at hd
   simp only at hd
   rw [List.getElem?_set] at hd
   split at hd
   ·rename_i hij
    subst hij
    injection hd with hd
    exact ⟨e, he, by rw [← hd]⟩
   ·exact ⟨d, hd, rfl⟩
  obtain ⟨d', hd1, hd2⟩ := hd'
  rw [← hd2]
  have hr := h3 i d' y hd1 hy
  refine ownsRow_fr hr (X := (· = g)) ((Fr.of_below (Below.refl _ w)).set _ _ (fun _ => rfl)) ?_
  intro g' hg' e1
  obtain ⟨c1, hc1⟩ := ownsRow_ty hr hg'
  obtain ⟨c2, hc2⟩ := ownsRow_ty h2 (g := g) rfl
  rw [e1, hc2] at hc1
  injection hc1 with hc1
  injection hc1 with _ hc1
  cases hc1
def likeL (d : List (List UInt8 × List Int)) (o : List Elm) (own : Nat) (ts : List Tok) : Re (List Elm) := match takeK [3, 5] ts with
 | .error e => .error e
 | .ok (b, r) => match itemL d b with
  | .error e => .error e
  | .ok c => match placeL o c with
   | none => .error (31, b.at_)
   | some j => if j = own then .error (31, b.at_) else .ok (markL o own (((o[j]?).map Elm.same).getD 0), r)
def OdTold (w : World) (lo R : Nat) (T : TV) (v1 v2 v3 v4 v5 : Value) : Re (List Elm) → Ending → World → Prop
 | .ok (o, r), e, w' => ∃ k u4, e = .returned (.tuple #[]) ∧ CU w' R T k v1 v2 v3 u4 v5 ∧ T.ts.drop k = r ∧ OrdAt w' lo u4 o ∧ (∀ g, u4.ownBlock = some g → v4.ownBlock = some g ∨ w.heap.size ≤ g) ∧ Fr w w' (fun j => j = R ∨ v4.ownBlock = some j)
 | .error er, e, w' => e = .panicked (faultV er.1 er.2) ∧ Fr w w' (fun j => j = R ∨ v4.ownBlock = some j)
set_option maxRecDepth 100000 in
set_option maxHeartbeats 8000000 in
theorem like_any (w : World) (lo R : Nat) (T : TV) (k : Nat) (v1 v2 v3 v4 : Value) (M : Nat) (d : List (List UInt8 × List Int)) (o : List Elm) (own : Nat) (h : CU w R T k v1 v2 v3 v4 (.map (some M))) (hd : DeAt w lo M d) (ho : OrdAt w lo v4 o) (hN : NumOk T) (hE : Ended (T.ts.drop k)) (hown : own < o.length) (hn : o.length ≤ 2000) (hlo : R < lo) (hlw : lo ≤ w.heap.size) :
  Calls Tryz.prog 136 #[.pointer (some ⟨R, 0, none⟩), .int .i64 own] w (OdTold w lo R T v1 v2 v3 v4 (.map (some M)) (likeL d o own (T.ts.drop k))) := by
 obtain ⟨x0, r0, hx0⟩ := hE.some_
 have hR := h.lt
 obtain ⟨X, hX⟩ : ∃ X, X = likeL d o own (T.ts.drop k) := ⟨_, rfl⟩
 rw [← hX]
 rw [hx0] at hX
 unfold likeL at hX
 by_cases c0 : x0.k = 3 ∨ x0.k = 5
 rotate_left
 ·have hta := take2_no w R T k v1 v2 v3 v4 (.map (some M)) x0 r0 _ rfl 3 5 h hx0 c0
  rw [takeK, if_neg (by simpa using c0)] at hX
  simp only at hX
  subst hX
  clear h hN hE hd ho c0 hx0
  go_enter Tryz.func136, Tryz.ntmps136
  go_wp2_with fail
  refine hta.mono ?_
  rintro e w1 ⟨rfl, hm1⟩
  exact ⟨rfl, rfl, (Fr.of_moved hm1).mono fun _ _ e => .inl e⟩
 have hta := take2_yes w R T k v1 v2 v3 v4 (.map (some M)) x0 r0 _ rfl 3 5 h hx0 c0
 rw [takeK, if_pos (by simpa using c0)] at hX
 simp only at hX
 have hnx := hN.at_ hx0
 obtain ⟨A, cap, rfl⟩ := ho.form
 have HX := Lib.hid hX
 have HDr := Lib.hid (drop_next hx0)
 have HCU := Lib.hid h
 have HDE := Lib.hid hd
 have HO := Lib.hid ho
 clear h hN hE hd ho c0 hx0 hX
 go_enter Tryz.func136, Tryz.ntmps136
 go_wp2_with fail
 refine hta.mono ?_
 rintro e w1 ⟨rfl, hc1, hm1⟩
 obtain ⟨W1, hW1⟩ : ∃ W1, W1 = w1.alloc (.cells #[.int .u8 x0.k, .string (str x0.t), .int .i64 x0.n, .int .i64 x0.at_] 92) := ⟨_, rfl⟩
 have HT1 : Hid (LTk W1 w1.heap.size x0) := Lib.hid (by rw [hW1]; exact LTk.new w1 x0)
 have HC1 : Hid (CU W1 R T (k + 1) v1 v2 v3 (.slice A o.length cap) (.map (some M))) := Lib.hid (by rw [hW1]; exact hc1.alloc _)
 have HF1 : Hid (Fr w W1 (· = R)) := Lib.hid (by rw [hW1]; exact (Fr.of_moved hm1).alloc _)
 have HD1 := Lib.hid (HDE.out.frR HCU.out HF1.out)
 have HO1 := Lib.hid (HO.out.frR HCU.out HF1.out)
 have hs1 := HF1.out.size
 have hco := cellsOf_any W1 lo R T (k + 1) v1 v2 v3 (.slice A o.length cap) M d x0 HC1.out HD1.out hnx (by omega)
 unfold tkV at hco
 clear hc1 hm1 hta
 obtain ⟨t0, t1, t2, t3⟩ := HT1.out.cells
 rw [hW1] at t0 t1 t2 t3
 unfold tkV
 go_wp2_with fail
 rw [← hW1]
 clear hW1 t0 t1 t2 t3
 have HX1 := HX
 cases hi : itemL d x0 with
 | error er =>
  rw [hi] at hco
  have HX2 : Hid (X = .error er) := Lib.hid (by have := HX.out; rw [hi] at this; exact this)
  refine hco.mono ?_
  rintro e w2 ⟨rfl, hb2⟩
  have eX := HX2.out
  subst eX
  exact ⟨rfl, rfl, (HF1.out.mono fun _ _ e => .inl e).trans (.of_below hb2)⟩
 | ok c =>
  rw [hi] at hco
  have HX2 : Hid (X = match placeL o c with
   | none => .error (31, x0.at_)
   | some j => if j = own then .error (31, x0.at_) else .ok (markL o own (((o[j]?).map Elm.same).getD 0), r0)) := Lib.hid (by have := HX.out; rw [hi] at this; exact this)
  clear hi
  refine hco.mono ?_
  rintro e w2 ⟨⟨v, rfl, hv2⟩, hb2⟩
  have HC2 := Lib.hid (HC1.out.next hb2)
  have HO2 := Lib.hid (HO1.out.next hb2)
  have HF2 := Lib.hid (HF1.out.trans (.of_below hb2))
  have HT2 : Hid (LTk w2 w1.heap.size x0) := Lib.hid ((hb2.block _ HT1.out.lt).trans HT1.out)
  have hpl := placeOf_any w2 lo R T (k + 1) v1 v2 v3 (.slice A o.length cap) (.map (some M)) v o c HC2.out HO2.out hv2 hn
  clear hv2 hb2 hco
  go_wp2_with fail
  refine hpl.mono ?_
  rintro e w3 ⟨rfl, hb3⟩
  have HC3 := Lib.hid (HC2.out.next hb3)
  have HO3 := Lib.hid (HO2.out.next hb3)
  have HF3 := Lib.hid (HF2.out.trans (.of_below hb3))
  have HT3 : Hid (LTk w3 w1.heap.size x0) := Lib.hid ((hb3.block _ HT2.out.lt).trans HT2.out)
  clear hb3 hpl
  have hrf := fun W => refuse_any 31 x0 W
  unfold tkV at hrf
  obtain ⟨t0, t1, t2, t3⟩ := HT3.out.cells
  cases hp : placeL o c with
  | none =>
   have hpv : placeV o c = -1 := by unfold placeV; rw [hp]
   have HX3 : Hid (X = .error (31, x0.at_)) := Lib.hid (by have := HX2.out; rw [hp] at this; exact this)
   rw [hpv]
   clear hp
   go_wp2_with fail
   refine (hrf _).mono ?_
   rintro e w4 ⟨rfl, hb4⟩
   have eX := HX3.out
   subst eX
   exact ⟨rfl, rfl, (HF3.out.mono fun _ _ e => .inl e).trans (.of_below hb4)⟩
  | some j =>
   have hpv : placeV o c = j := by unfold placeV; rw [hp]
   have hjl : j < o.length := by
    unfold placeL at hp
    rw [List.findIdx?_eq_some_iff_getElem] at hp
    exact hp.1
   rw [hpv]
   have j0 : ¬ (j : Int) < 0 := by omega
   by_cases hjo : j = own
   ·have HX3 : Hid (X = .error (31, x0.at_)) := Lib.hid (by have := HX2.out; rw [hp] at this; simp only at this; rw [if_pos hjo] at this; exact this)
    have jo : (j : Int) = (own : Int) := by omega
    clear hp hjo
    go_wp2_with fail
    refine (hrf _).mono ?_
    rintro e w4 ⟨rfl, hb4⟩
    have eX := HX3.out
    subst eX
    exact ⟨rfl, rfl, (HF3.out.mono fun _ _ e => .inl e).trans (.of_below hb4)⟩
   have jo : ¬ (j : Int) = (own : Int) := by omega
   have jb : (decide ((j : Int) < 0) || ((j : Int) == (own : Int))) = false := by simp [jo, j0]
   obtain ⟨ej, hej⟩ : ∃ ej, o[j]? = some ej := ⟨_, List.getElem?_eq_getElem hjl⟩
   obtain ⟨eo, heo⟩ : ∃ eo, o[own]? = some eo := ⟨_, List.getElem?_eq_getElem hown⟩
   have HX3 : Hid (X = .ok (markL o own ej.same, r0)) := Lib.hid (by have := HX2.out; rw [hp] at this; simp only at this; rw [if_neg hjo, hej] at this; exact this)
   obtain ⟨vs, h1, h2, h3⟩ := HO3.out
   obtain ⟨g, cap', hgc⟩ := Joins.ownsRow_form h2 (by omega)
   injection hgc with hA hA1 hA2
   subst hA hA2
   obtain ⟨ad, had⟩ : ∃ ad : Addr, ad = ⟨g, 0, none⟩ := ⟨_, rfl⟩
   have HAD := Lib.hid had
   have hsi : SI 3 w3 w3.heap.size (some ad) o.length (ordR o vs) := by rw [had]; exact SI.of_own h2 (ordR_len h1) ordR_each
   have hcj : w3.cell? ⟨(ad.add (j * 3)).block, (ad.add (j * 3)).off + 2, none⟩ = some (.int .i64 ej.same) := by
    obtain ⟨ad', a, b, z, hA, _, hx, _, _, c2⟩ := hsi.at3 hjl
    injection hA with hA
    subst hA
    obtain ⟨e', v', he', _, hxe⟩ := ordR_at hx
    rw [hej] at he'
    injection he' with he'
    subst he'
    simp at hxe
    rw [hxe.2.2] at c2
    exact c2
   have hcw : w3.cell? ⟨(ad.add (own * 3)).block, (ad.add (own * 3)).off + 2, none⟩ = some (.int .i64 eo.same) := by
    obtain ⟨ad', a, b, z, hA, _, hx, _, _, c2⟩ := hsi.at3 hown
    injection hA with hA
    subst hA
    obtain ⟨e', v', he', _, hxe⟩ := ordR_at hx
    rw [heo] at he'
    injection he' with he'
    subst he'
    simp at hxe
    rw [hxe.2.2] at c2
    exact c2
   have hRg : R < g := by have := (h2.lt g rfl).1; omega
   have hfz : w3.frozen? ⟨(ad.add (own * 3)).block, (ad.add (own * 3)).off + 2, none⟩ = false := by
    obtain ⟨cc, hcc⟩ := ownsRow_ty h2 (g := g) rfl
    rw [had, add_plain]
    simp [World.frozen?, hcc]
   have q5 := HC3.out.more.2.2.2.1
   have i0 : (0 : Int) ≤ (j : Int) := by omega
   have i1 : (j : Int) < (o.length : Int) := by omega
   have i2 : (0 : Int) ≤ (own : Int) := by omega
   have i3 : (own : Int) < (o.length : Int) := by omega
   have HEO := Lib.hid heo
   rw [← had] at q5
   clear hp hjo h1 h2 h3 hsi had hrf t0 t1 t2 t3 hej heo hpv
   go_wp2_with fail
   refine wp_region_E (S := fun W : World => W.cell? ⟨R, 5, none⟩ = some (.slice (some ad) o.length cap) ∧ W.cell? ⟨(ad.add (j * 3)).block, (ad.add (j * 3)).off + 2, none⟩ = some (.int .i64 ej.same)) (L := 17) (by kernel_rfl) ?_
   have hS4 : (fun W : World => W.cell? ⟨R, 5, none⟩ = some (.slice (some ad) o.length cap) ∧ W.cell? ⟨(ad.add (j * 3)).block, (ad.add (j * 3)).off + 2, none⟩ = some (.int .i64 ej.same)) w3.drew := ⟨q5, hcj⟩
   refine wpAnyE_take (i := 0) (oi := ?oi0) (v := ?v0) ?hi0 (by kernel_rfl) (by kernel_rfl) (by kernel_rfl) (by kernel_rfl) ?hq0 (Or.inl ⟨?hw0, ?hy0⟩) (by assumption) ?rest0
   case hi0 => exact rfl
   case hq0 => exact fun _ _ _ h => h
   case hw0 => rfl
   case hy0 => (intro x hx; (try dsimp only at hx); simp only [List.getElem_toArray, List.getElem_cons_zero]; go_split_ands; go_simp; try with_reducible rfl)
   try simp only [Act.put, List.setIfInBounds_toArray, List.set_cons_zero, List.set_cons_succ, List.getElem_toArray, List.getElem_cons_zero]
   refine wpAnyE_take (i := 1) (oi := ?oi1) (v := ?v1) ?hi1 (by kernel_rfl) (by kernel_rfl) (by kernel_rfl) (by kernel_rfl) ?hq1 (Or.inl ⟨?hw1, ?hy1⟩) (by assumption) ?rest1
   case hi1 => exact rfl
   case hq1 => exact fun _ _ _ h => h
   case hw1 => rfl
   case hy1 => (intro x hx; (try dsimp only at hx); simp only [List.getElem_toArray, List.getElem_cons_succ, List.getElem_cons_zero]; go_split_ands; go_simp; try with_reducible rfl)
   try simp only [Act.put, List.setIfInBounds_toArray, List.set_cons_zero, List.set_cons_succ, List.getElem_toArray, List.getElem_cons_succ, List.getElem_cons_zero]
   refine wpAnyE_take (i := 2) (oi := ?oi2) (v := ?v2) ?hi2 (by kernel_rfl) (by kernel_rfl) (by kernel_rfl) (by kernel_rfl) ?hq2 (Or.inl ⟨?hw2, ?hy2⟩) (by assumption) ?rest2
   case hi2 => exact rfl
   case hq2 => exact fun _ _ _ h => h
   case hw2 => rfl
   case hy2 => (intro x hx; (try dsimp only at hx); simp only [List.getElem_toArray, List.getElem_cons_succ, List.getElem_cons_zero]; go_split_ands; go_simp; try with_reducible rfl)
   try simp only [Act.put, List.setIfInBounds_toArray, List.set_cons_zero, List.set_cons_succ, List.getElem_toArray, List.getElem_cons_succ, List.getElem_cons_zero]
   refine wpAnyE_take (i := 3) (oi := ?oi3) (v := ?v3) ?hi3 (by kernel_rfl) (by kernel_rfl) (by kernel_rfl) (by kernel_rfl) ?hq3 (Or.inl ⟨?hw3, ?hy3⟩) (by assumption) ?rest3
   case hi3 => exact rfl
   case hq3 => exact fun _ _ _ h => h
   case hw3 => rfl
   case hy3 => (intro x hx; (try dsimp only at hx); simp only [List.getElem_toArray, List.getElem_cons_succ, List.getElem_cons_zero]; go_split_ands; go_simp; try with_reducible rfl)
   try simp only [Act.put, List.setIfInBounds_toArray, List.set_cons_zero, List.set_cons_succ, List.getElem_toArray, List.getElem_cons_succ, List.getElem_cons_zero]
   refine wpAnyE_take (i := 4) (oi := ?oi4) (v := ?v4) ?hi4 (by kernel_rfl) (by kernel_rfl) (by kernel_rfl) (by kernel_rfl) ?hq4 (Or.inl ⟨?hw4, ?hy4⟩) (by assumption) ?rest4
   case hi4 => exact rfl
   case hq4 => exact fun _ _ _ h => h
   case hw4 => rfl
   case hy4 => (intro x hx; (try dsimp only at hx); simp only [List.getElem_toArray, List.getElem_cons_succ, List.getElem_cons_zero]; go_split_ands; go_simp; try with_reducible rfl)
   try simp only [Act.put, List.setIfInBounds_toArray, List.set_cons_zero, List.set_cons_succ, List.getElem_toArray, List.getElem_cons_succ, List.getElem_cons_zero]
   refine wpAnyE_take (i := 5) (oi := ?oi5) (v := ?v5) ?hi5 (by kernel_rfl) (by kernel_rfl) (by kernel_rfl) (by kernel_rfl) ?hq5 (Or.inl ⟨?hw5, ?hy5⟩) (by assumption) ?rest5
   case hi5 => exact rfl
   case hq5 => exact fun _ _ _ h => h
   case hw5 => rfl
   case hy5 => (intro x hx; (try dsimp only at hx); simp only [List.getElem_toArray, List.getElem_cons_succ, List.getElem_cons_zero]; go_split_ands; go_simp; try with_reducible rfl)
   try simp only [Act.put, List.setIfInBounds_toArray, List.set_cons_zero, List.set_cons_succ, List.getElem_toArray, List.getElem_cons_succ, List.getElem_cons_zero]
   refine wpAnyE_take (i := 6) (oi := ?oi6) (v := ?v6) ?hi6 (by kernel_rfl) (by kernel_rfl) (by kernel_rfl) (by kernel_rfl) ?hq6 (Or.inl ⟨?hw6, ?hy6⟩) (by assumption) ?rest6
   case hi6 => exact rfl
   case hq6 => exact fun _ _ _ h => h
   case hw6 => rfl
   case hy6 => (intro x hx; (try dsimp only at hx); simp only [List.getElem_toArray, List.getElem_cons_succ, List.getElem_cons_zero]; go_split_ands; go_simp; try with_reducible rfl)
   try simp only [Act.put, List.setIfInBounds_toArray, List.set_cons_zero, List.set_cons_succ, List.getElem_toArray, List.getElem_cons_succ, List.getElem_cons_zero]
   refine wpAnyE_take (i := 7) (oi := ?oi7) (v := ?v7) ?hi7 (by kernel_rfl) (by kernel_rfl) (by kernel_rfl) (by kernel_rfl) ?hq7 (Or.inl ⟨?hw7, ?hy7⟩) (by assumption) ?rest7
   case hi7 => exact rfl
   case hq7 => exact fun _ _ _ h => h
   case hw7 => rfl
   case hy7 => (intro x hx; (try dsimp only at hx); simp only [List.getElem_toArray, List.getElem_cons_succ, List.getElem_cons_zero]; go_split_ands; go_simp; try with_reducible rfl)
   try simp only [Act.put, List.setIfInBounds_toArray, List.set_cons_zero, List.set_cons_succ, List.getElem_toArray, List.getElem_cons_succ, List.getElem_cons_zero]
   refine wpAnyE_take (i := 8) (oi := ?oi8) (v := ?v8) ?hi8 (by kernel_rfl) (by kernel_rfl) (by kernel_rfl) (by kernel_rfl) ?hq8 (Or.inl ⟨?hw8, ?hy8⟩) (by assumption) ?rest8
   case hi8 => exact rfl
   case hq8 => exact fun _ _ _ h => h
   case hw8 => rfl
   case hy8 => (intro x hx; (try dsimp only at hx); simp only [List.getElem_toArray, List.getElem_cons_succ, List.getElem_cons_zero]; go_split_ands; go_simp; try with_reducible rfl)
   try simp only [Act.put, List.setIfInBounds_toArray, List.set_cons_zero, List.set_cons_succ, List.getElem_toArray, List.getElem_cons_succ, List.getElem_cons_zero]
   refine wpAnyE_take (i := 9) (oi := ?oi9) (v := ?v9) ?hi9 (by kernel_rfl) (by kernel_rfl) (by kernel_rfl) (by kernel_rfl) ?hq9 (Or.inl ⟨?hw9, ?hy9⟩) (by assumption) ?rest9
   case hi9 => exact rfl
   case hq9 => exact fun _ _ _ h => h
   case hw9 => rfl
   case hy9 => (intro x hx; (try dsimp only at hx); simp only [List.getElem_toArray, List.getElem_cons_succ, List.getElem_cons_zero]; go_split_ands; go_simp; try with_reducible rfl)
   try simp only [Act.put, List.setIfInBounds_toArray, List.set_cons_zero, List.set_cons_succ, List.getElem_toArray, List.getElem_cons_succ, List.getElem_cons_zero]
   refine wpAnyE_take (i := 10) (oi := ?oi10) (v := ?v10) ?hi10 (by kernel_rfl) (by kernel_rfl) (by kernel_rfl) (by kernel_rfl) ?hq10 (Or.inl ⟨?hw10, ?hy10⟩) (by assumption) ?rest10
   case hi10 => exact rfl
   case hq10 => exact fun _ _ _ h => h
   case hw10 => rfl
   case hy10 => (intro x hx; (try dsimp only at hx); simp only [List.getElem_toArray, List.getElem_cons_succ, List.getElem_cons_zero]; go_split_ands; go_simp; try with_reducible rfl)
   try simp only [Act.put, List.setIfInBounds_toArray, List.set_cons_zero, List.set_cons_succ, List.getElem_toArray, List.getElem_cons_succ, List.getElem_cons_zero]
   refine wpAnyE_take (i := 11) (oi := ?oi11) (v := ?v11) ?hi11 (by kernel_rfl) (by kernel_rfl) (by kernel_rfl) (by kernel_rfl) ?hq11 (Or.inl ⟨?hw11, ?hy11⟩) (by assumption) ?rest11
   case hi11 => exact rfl
   case hq11 => exact fun _ _ _ h => h
   case hw11 => rfl
   case hy11 => (intro x hx; (try dsimp only at hx); simp only [List.getElem_toArray, List.getElem_cons_succ, List.getElem_cons_zero]; go_split_ands; go_simp; try with_reducible rfl)
   try simp only [Act.put, List.setIfInBounds_toArray, List.set_cons_zero, List.set_cons_succ, List.getElem_toArray, List.getElem_cons_succ, List.getElem_cons_zero]
   refine wpAnyE_take (i := 12) (oi := ?oi12) (v := ?v12) ?hi12 (by kernel_rfl) (by kernel_rfl) (by kernel_rfl) (by kernel_rfl) ?hq12 (Or.inl ⟨?hw12, ?hy12⟩) (by assumption) ?rest12
   case hi12 => exact rfl
   case hq12 => exact fun _ _ _ h => h
   case hw12 => rfl
   case hy12 => (intro x hx; (try dsimp only at hx); simp only [List.getElem_toArray, List.getElem_cons_succ, List.getElem_cons_zero]; go_split_ands; go_simp; try with_reducible rfl)
   try simp only [Act.put, List.setIfInBounds_toArray, List.set_cons_zero, List.set_cons_succ, List.getElem_toArray, List.getElem_cons_succ, List.getElem_cons_zero]
   refine wpAnyE_take (i := 13) (oi := ?oi13) (v := ?v13) ?hi13 (by kernel_rfl) (by kernel_rfl) (by kernel_rfl) (by kernel_rfl) ?hq13 (Or.inl ⟨?hw13, ?hy13⟩) (by assumption) ?rest13
   case hi13 => exact rfl
   case hq13 => exact fun _ _ _ h => h
   case hw13 => rfl
   case hy13 => (intro x hx; (try dsimp only at hx); simp only [List.getElem_toArray, List.getElem_cons_succ, List.getElem_cons_zero]; go_split_ands; go_simp; try with_reducible rfl)
   try simp only [Act.put, List.setIfInBounds_toArray, List.set_cons_zero, List.set_cons_succ, List.getElem_toArray, List.getElem_cons_succ, List.getElem_cons_zero]
   refine wpAnyE_take (i := 14) (oi := ?oi14) (v := ?v14) ?hi14 (by kernel_rfl) (by kernel_rfl) (by kernel_rfl) (by kernel_rfl) ?hq14 (Or.inl ⟨?hw14, ?hy14⟩) (by assumption) ?rest14
   case hi14 => exact rfl
   case hq14 => exact fun _ _ _ h => h
   case hw14 => rfl
   case hy14 => (intro x hx; (try dsimp only at hx); simp only [List.getElem_toArray, List.getElem_cons_succ, List.getElem_cons_zero]; go_split_ands; go_simp; try with_reducible rfl)
   try simp only [Act.put, List.setIfInBounds_toArray, List.set_cons_zero, List.set_cons_succ, List.getElem_toArray, List.getElem_cons_succ, List.getElem_cons_zero]
   refine wpAnyE_one (i := 15) (by kernel_rfl) rfl (fun K hK => ?_)
   simp only [List.getElem_toArray, List.getElem_cons_succ, List.getElem_cons_zero]
   go_simp
   refine hK.out _ _ (fun _ => hS4) (fun hS => ?_)
   replace hS := hS (by decide)
   refine wpAnyE_take (i := 16) (oi := ?oi16) (v := ?v16) ?hi16 (by kernel_rfl) (by kernel_rfl) (by kernel_rfl) (by kernel_rfl) ?hq16 (Or.inl ⟨?hw16, ?hy16⟩) (by assumption) ?rest16
   case hi16 => exact rfl
   case hq16 => exact fun _ _ _ h => h
   case hw16 => rfl
   case hy16 => (intro x hx; (try dsimp only at hx); simp only [List.getElem_toArray, List.getElem_cons_succ, List.getElem_cons_zero]; go_split_ands; go_simp; try with_reducible rfl)
   try simp only [Act.put, List.setIfInBounds_toArray, List.set_cons_zero, List.set_cons_succ, List.getElem_toArray, List.getElem_cons_succ, List.getElem_cons_zero]
   refine wpAnyE_one (i := 17) (by kernel_rfl) rfl (fun K hK => ?_)
   simp only [List.getElem_toArray, List.getElem_cons_succ, List.getElem_cons_zero]
   go_simp
   refine hK.out _ _ (fun h => absurd rfl h) (fun _ => ?_)
   refine wpAnyE_done (by kernel_rfl) ?_ _
   have hadd : (⟨(ad.add (own * 3)).block, (ad.add (own * 3)).off + 2, none⟩ : Addr) = ⟨g, own * 3 + 2, none⟩ := by
    rw [HAD.out, add_plain]
    simp
   have eX := HX3.out
   subst eX
   go_end0
   rw [hadd]
   exact ⟨k + 1, _, rfl, (HC3.out.far (p := ⟨g, own * 3 + 2, none⟩) hRg _).drew, HDr.out, (HO3.out.mark HEO.out ej.same).drew, fun _ e => .inl e, ((HF3.out.mono fun _ _ e => .inl e).set ⟨g, own * 3 + 2, none⟩ _ (fun _ => .inr rfl)).drew⟩
end Go.Proofs.YthaibekbefndlaaGreatDoor.C
