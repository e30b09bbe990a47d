/-
  Joined: LdC, LdD, LdE, LdI, LdH, LeC, LeJ. Each with what its own head says.
-/
import Derived.Test.YthaibekbefndlaaGreatDoorZ14
import Derived.Test.YthaibekbefndlaaGreatDoorZ13

namespace Go.Proofs.YthaibekbefndlaaGreatDoor.C
open Go.RowKit

theorem flat_at {sz : Nat} : ∀ {xs : List (List Value)} {j i : Nat} {x : List Value} {u : Value}, (∀ x ∈ xs, x.length = sz) → xs[j]? = some x → x[i]? = some u → xs.flatten[j * sz + i]? = some u
 | [], j, i, x, u, _, hx, _ => by simp at hx
 | y :: r, 0, i, x, u, h, hx, hu => by
  simp at hx
  subst hx
  have hi : i < y.length := (List.getElem?_eq_some_iff.1 hu).1
  rw [List.flatten_cons, List.getElem?_append_left (by omega)]
  simpa using hu
 | y :: r, j + 1, i, x, u, h, hx, hu => by
  have hy := h y (by simp)
  rw [List.flatten_cons, List.getElem?_append_right (by rw [hy, Nat.succ_mul]; omega), hy]
  have := flat_at (xs := r) (j := j) (fun z hz => h z (List.mem_cons_of_mem _ hz)) (by simpa using hx) hu
  rw [show (j + 1) * sz + i - sz = j * sz + i by rw [Nat.succ_mul]; omega]
  exact this
theorem SI.of_own {w : World} {base sz n c : Nat} {e : TypeId} {A : Option Addr} {xs : List (List Value)} (h : w.ownsRow base e sz (.slice A n c) n xs.flatten) (hl : xs.length = n) (hx : ∀ x ∈ xs, x.length = sz) : SI sz w w.heap.size A n xs := by
 refine ⟨hl, hx, fun hn => ?_⟩
 rcases h.2 with ⟨_, h0⟩ | ⟨g, cap, cur, he, _⟩
 ·omega
 ·injection he with he _ _
  subst he
  refine ⟨_, rfl, (h.lt g rfl).2, fun j x hj i u hu => ?_⟩
  exact h.cells rfl _ _ (flat_at hx hj hu)
def ordR (o : List Elm) (vs : List Value) : List (List Value) := (o.zip vs).map fun x => [.string (str x.1.name), x.2, .int .i64 x.1.same]
theorem ordR_len {o : List Elm} {vs : List Value} (h : vs.length = o.length) : (ordR o vs).length = o.length := by simp [ordR, h]
theorem ordR_each {o : List Elm} {vs : List Value} : ∀ x ∈ ordR o vs, x.length = 3 := by
 intro x hx
 unfold ordR at hx
 rw [List.mem_map] at hx
 obtain ⟨y, _, rfl⟩ := hx
 rfl
theorem ordR_snoc {o : List Elm} {vs : List Value} (h : vs.length = o.length) (e : Elm) (v : Value) : ordR (o ++ [e]) (vs ++ [v]) = ordR o vs ++ [[.string (str e.name), v, .int .i64 e.same]] := by
 unfold ordR
 rw [List.zip_append h.symm]
 simp
def OrdAt (w : World) (lo : Nat) (v : Value) (o : List Elm) : Prop :=
 ∃ vs : List Value, vs.length = o.length ∧ w.ownsRow lo 34 3 v o.length (ordR o vs).flatten ∧ ∀ (i : Nat) (e : Elm) (x : Value), o[i]? = some e → vs[i]? = some x → w.ownsRow lo 35 1 x e.cells.length (celC e.cells)
theorem OrdAt.nil (w : World) (lo : Nat) : OrdAt w lo (.slice none 0 0) [] := ⟨[], rfl, ⟨rfl, .inl ⟨rfl, rfl⟩⟩, by simp⟩
theorem OrdAt.fr {w w' : World} {X : Nat → Prop} {lo : Nat} {v : Value} {o : List Elm} (h : OrdAt w lo v o) (hf : Fr w w' X) (hx : ∀ g c z t, X g → w.heap[g]? = some (.cells c t z) → t ≠ 35 ∧ t ≠ 34) : OrdAt w' lo v o := by
 obtain ⟨vs, h1, h2, h3⟩ := h
 refine ⟨vs, h1, ownsRow_fr h2 hf ?_, fun i e x he hv => ownsRow_fr (h3 i e x he hv) hf ?_⟩
 ·intro g hg hX
  obtain ⟨c, hc⟩ := ownsRow_ty h2 hg
  exact (hx g _ _ _ hX hc).2 rfl
 ·intro g hg hX
  obtain ⟨c, hc⟩ := ownsRow_ty (h3 i e x he hv) hg
  exact (hx g _ _ _ hX hc).1 rfl
theorem OrdAt.next {w w' : World} {lo : Nat} {v : Value} {o : List Elm} (h : OrdAt w lo v o) (hb : Below w.heap.size w w') : OrdAt w' lo v o := h.fr (X := fun _ => False) (.of_below hb) (by rintro _ _ _ _ ⟨⟩)
theorem OrdAt.drew {w : World} {lo : Nat} {v : Value} {o : List Elm} (h : OrdAt w lo v o) : OrdAt w.drew lo v o := h
theorem OrdAt.frR {w w' : World} {R k : Nat} {T : TV} {v1 v2 v3 v4 v5 : Value} {lo : Nat} {v : Value} {o : List Elm} (h : OrdAt w lo v o) (hc : CU w R T k v1 v2 v3 v4 v5) (hf : Fr w w' (· = R)) : OrdAt w' lo v o := by
 refine h.fr hf ?_
 rintro g c z t rfl hg
 rw [hc.1] at hg
 simp at hg
 obtain ⟨-, rfl, -⟩ := hg
 decide
theorem OrdAt.form {w : World} {lo : Nat} {v : Value} {o : List Elm} (h : OrdAt w lo v o) : ∃ A c, v = .slice A o.length c := by
 obtain ⟨vs, h1, h2, _⟩ := h
 rcases Joins.ownsRow_forms h2 with ⟨rfl, h0⟩ | ⟨g, c, rfl⟩
 ·exact ⟨none, 0, by rw [h0]⟩
 ·exact ⟨_, _, rfl⟩
def placeV (o : List Elm) (c : List Int) : Int := match placeL o c with | some i => (i : Int) | none => -1
end Go.Proofs.YthaibekbefndlaaGreatDoor.C

namespace Go.Proofs.YthaibekbefndlaaGreatDoor.C
open Go.RowKit

theorem own_one (W : World) (lo : Nat) (c : Int) (g : Nat) (hg : W.heap.size = g) (hlo : lo ≤ W.heap.size) : (W.alloc (.cells #[.int .i32 c] 35)).ownsRow lo 35 1 (.slice (some ⟨g, 0, none⟩) 1 1) 1 (celC [c]) := by
 subst hg
 exact ⟨rfl, .inr ⟨_, 1, #[.int .i32 c], rfl, hlo, heap_alloc_new W _, Nat.le_refl _, by unfold maxLen; omega, rfl, rfl⟩⟩
def CoTold (w : World) (lo : Nat) : Except Er (List Int) → Ending → World → Prop
 | .ok c, e, w' => (∃ v, e = .returned v ∧ w'.ownsRow lo 35 1 v c.length (celC c)) ∧ Below w.heap.size w w'
 | .error er, e, w' => e = .panicked (faultV er.1 er.2) ∧ Below w.heap.size w w'
set_option maxRecDepth 100000 in
set_option maxHeartbeats 4000000 in
theorem cellsOf_any (w : World) (lo R : Nat) (T : TV) (k : Nat) (v1 v2 v3 v4 : Value) (M : Nat) (d : List (List UInt8 × List Int)) (x : Tok) (h : CU w R T k v1 v2 v3 v4 (.map (some M))) (hd : DeAt w lo M d) (hx : x.n ≤ 1114111) (hlw : lo ≤ w.heap.size) :
  Calls Tryz.prog 133 #[.pointer (some ⟨R, 0, none⟩), tkV x] w (CoTold w lo (itemL d x)) := by
 obtain ⟨xk, xt, xn, xa⟩ := x
 simp only at hx
 have hR := h.lt
 obtain ⟨X, hX⟩ : ∃ X, X = itemL d ⟨xk, xt, xn, xa⟩ := ⟨_, rfl⟩
 rw [← hX]
 unfold itemL at hX
 simp only at hX
 obtain ⟨W1, hW1⟩ : ∃ W1, W1 = w.alloc (.cells #[.int .u8 xk, .string (str xt), .int .i64 xn, .int .i64 xa] 92) := ⟨_, rfl⟩
 have hb1 : Below w.heap.size w W1 := by rw [hW1]; exact (Below.refl _ _).alloc (Nat.le_refl _) _
 have hs1 : W1.heap.size = w.heap.size + 1 := by rw [hW1]; simp
 by_cases hk : xk = 3
 ·subst hk
  rw [if_pos rfl] at hX
  subst hX
  have n0 : (0 : Int) ≤ (xn : Int) := by omega
  have n1 : (xn : Int) ≤ 1114111 := by omega
  have e1 : IntKind.i32.wrap (xn : Int) = (xn : Int) := wrap32 n0 n1
  have hown := own_one W1 lo xn (w.heap.size + 1) hs1 (by omega)
  have hb2 : Below w.heap.size w (W1.alloc (.cells #[.int .i32 xn] 35)) := hb1.trans ((Below.refl _ _).alloc (by omega) _)
  have HO := Lib.hid hown
  have HB := Lib.hid hb2
  rw [hW1] at HO HB
  clear h hd hb1 hs1 hW1 hown hb2
  unfold tkV
  go_enter Tryz.func133, Tryz.ntmps133
  go_wp2
  go_ret
  exact ⟨⟨_, rfl, HO.out⟩, HB.out⟩
 ·rw [if_neg hk] at hX
  have hk' : ¬ (xk : Int) = 3 := by omega
  have hc1 := (h.next hb1)
  have ht1 : LTk W1 w.heap.size ⟨xk, xt, xn, xa⟩ := by rw [hW1]; exact LTk.new w ⟨xk, xt, xn, xa⟩
  have HC1 := Lib.hid hc1
  have HT1 := Lib.hid ht1
  have hde := (hd.next hb1).drew
  have HB := Lib.hid hb1
  cases hl : lookD d xt with
  | some c =>
   rw [hl] at hX
   simp only at hX
   subst hX
   obtain ⟨v, hv, hlk⟩ := hde.yes hl
   have HV := Lib.hid hv
   clear h hd hb1 hc1 ht1 hde hl hk hv
   unfold tkV
   go_enter Tryz.func133, Tryz.ntmps133
   go_wp2
   rw [← hW1]
   have q1 := HC1.out.drew.more.2.2.2.2
   obtain ⟨t0, t1, t2, t3⟩ := HT1.out.drew.cells
   clear hW1
   go_region_held3 (fun w' => w'.cell? ⟨R, 6, none⟩ = some (.map (some M)) ∧ w'.cell? ⟨w.heap.size, 1, none⟩ = some (.string (str xt))) (go_keep) (fail)
   go_wp2
   go_ret
   exact ⟨⟨v, rfl, HV.out⟩, HB.out.trans ⟨rfl, rfl, rfl, Nat.le_refl _, fun _ _ => rfl⟩⟩
  | none =>
   rw [hl] at hX
   simp only at hX
   subst hX
   have hlk := hde.no hl
   have hrf := fun W => refuse_any 31 ⟨xk, xt, xn, xa⟩ W
   unfold tkV at hrf
   clear h hd hb1 hc1 ht1 hde hl hk
   unfold tkV
   go_enter Tryz.func133, Tryz.ntmps133
   go_wp2
   rw [← hW1]
   have q1 := HC1.out.drew.more.2.2.2.2
   obtain ⟨t0, t1, t2, t3⟩ := HT1.out.drew.cells
   clear hW1
   go_region_held3 (fun w' => w'.cell? ⟨R, 6, none⟩ = some (.map (some M)) ∧ w'.cell? ⟨w.heap.size, 1, none⟩ = some (.string (str xt))) (go_keep) (fail)
   go_wp2_with fail
   refine (hrf _).mono ?_
   rintro e w2 ⟨rfl, hb2⟩
   exact ⟨rfl, rfl, HB.out.trans ⟨hb2.os, hb2.tape, hb2.output, hb2.size, fun i hi => hb2.block i (by show i < W1.heap.size; omega)⟩⟩
end Go.Proofs.YthaibekbefndlaaGreatDoor.C

namespace Go.Proofs.YthaibekbefndlaaGreatDoor.C
open Go.RowKit

theorem trip_new (w : World) (k : Nat) (a b c : Value) (t : TypeId) (hk : w.heap.size = k) : ∀ j u, [a, b, c][j]? = some u → (w.alloc (.cells #[a, b, c] t)).cell? ((⟨k, 0, none⟩ : Addr).add j) = some u := by
 subst hk
 intro j u hu
 rw [add_plain, Nat.zero_add, World.cell?_alloc_new]
 simpa using hu
theorem infoElem : (Tryz.prog.info? 34).map (fun i => (i.zero, i.size, i.bytes)) = some (some (.agg #[.string (str []), .slice none 0 0, .int .i64 0]), 3, 48) := by kernel_rfl
theorem OrdAt.snoc {w w' : World} {lo g cap : Nat} {v x : Value} {o : List Elm} {vs : List Value} (c : Elm) (h1 : vs.length = o.length) (h2 : w.ownsRow lo 34 3 v o.length (ordR o vs).flatten) (h3 : ∀ (i : Nat) (e : Elm) (x : Value), o[i]? = some e → vs[i]? = some x → w.ownsRow lo 35 1 x e.cells.length (celC e.cells))
  (hx : w.ownsRow lo 35 1 x c.cells.length (celC c.cells))
  (hg : w.grownBy w' v.ownBlock) (ho : w'.ownsRow lo 34 3 (.slice (some ⟨g, 0, none⟩) (o.length + 1) cap) (o.length + 1) ((ordR o vs).flatten ++ [.string (str c.name), x, .int .i64 c.same])) :
  OrdAt w' lo (.slice (some ⟨g, 0, none⟩) (o.length + 1) cap) (o ++ [c]) := by
 have key : ∀ {n : Nat} {u : Value} {xs : List Value}, w.ownsRow lo 35 1 u n xs → w'.ownsRow lo 35 1 u n xs := fun hu => hu.kept hg (by
  rcases hb : (Value.ownBlock _) with _ | g1
  ·exact .inl rfl
  ·refine .inr fun e => ?_
   obtain ⟨c1, hc1⟩ := ownsRow_ty hu hb
   obtain ⟨c2, hc2⟩ := ownsRow_ty h2 e.symm
   rw [hc1] at hc2
   injection hc2 with hc2
   injection hc2 with _ hc2
   cases hc2)
 refine ⟨vs ++ [x], by simp [h1], by rw [ordR_snoc h1, List.length_append, List.flatten_append]; simpa using ho, ?_⟩
 intro i d y hd hy
 rcases Nat.lt_or_ge i o.length with hi | hi
 ·rw [List.getElem?_append_left hi] at hd
  rw [List.getElem?_append_left (by omega)] at hy
  exact key (h3 i d y hd hy)
 ·rw [List.getElem?_append_right hi] at hd
  rw [List.getElem?_append_right (by omega), h1] at hy
  have e0 : i - o.length = 0 := by
   rcases hq : i - o.length with _ | q
   ·rfl
   ·rw [hq] at hd
    simp at hd
  rw [e0] at hd hy
  simp at hd hy
  subst hd hy
  exact key hx
end Go.Proofs.YthaibekbefndlaaGreatDoor.C

namespace Go.Proofs.YthaibekbefndlaaGreatDoor.C
open Go.RowKit

def addAllL (o : List Elm) (a b : Tok) : Except Er (List Elm) := if amongB o a.n b.n then .error (32, a.at_) else runAll a o a.n (b.n + 1 - a.n)
def ordL (d : List (List UInt8 × List Int)) (o : List Elm) (ts : List Tok) : Re (List Elm) :=
 match takeK [3, 5] ts with
 | .error e => .error e
 | .ok (a, r) => if a.k = 3 ∧ isSign sThru r = true then
   match notBelow a (r.drop 1) with
   | .error e => .error e
   | .ok (b, r') => match addAllL o a b with
    | .error e => .error e
    | .ok o' => .ok (o', r')
  else match itemL d a with
   | .error e => .error e
   | .ok c => if (placeL o c).isSome then .error (32, a.at_) else
    if o.length = 500 then .error (3, a.at_) else
    if isSign sSemi r then likeL d (o ++ [⟨a.t, c, o.length⟩]) o.length (r.drop 1)
    else .ok (o ++ [⟨a.t, c, o.length⟩], r)
theorem placeL_lt {o : List Elm} {c : List Int} {j : Nat} (h : placeL o c = some j) : j < o.length := by
 unfold placeL at h
 rw [List.findIdx?_eq_some_iff_getElem] at h
 exact h.1
theorem placeL_snoc (o : List Elm) (e : Elm) (c : List Int) : placeL (o ++ [e]) c = match placeL o c with
  | some j => some j
  | none => if e.cells = c then some o.length else none := by
 unfold placeL
 rw [List.findIdx?_append]
 cases List.findIdx? (fun e => decide (e.cells = c)) o with
 | some j => rfl
 | none =>
  by_cases h : e.cells = c
  ·simp [h]
  ·simp [h]
theorem markL_snoc (o : List Elm) (t : List UInt8) (c : List Int) (s z : Int) : markL (o ++ [⟨t, c, s⟩]) o.length z = o ++ [⟨t, c, z⟩] := by
 unfold markL
 rw [List.getElem?_append_right (Nat.le_refl _), Nat.sub_self]
 simp
theorem likeL_new (d : List (List UInt8 × List Int)) (o : List Elm) (t : List UInt8) (c : List Int) (ts : List Tok) : likeL d (o ++ [⟨t, c, o.length⟩]) o.length ts = match takeK [3, 5] ts with
  | .error e => .error e
  | .ok (b, r) => match itemL d b with
   | .error e => .error e
   | .ok c' => match placeL o c' with
    | none => .error (31, b.at_)
    | some j => .ok (o ++ [⟨t, c, ((o[j]?).map Elm.same).getD 0⟩], r) := by
 unfold likeL
 rcases takeK [3, 5] ts with e | ⟨b, r⟩
 ·rfl
 ·simp only
  rcases itemL d b with e | c'
  ·rfl
  ·simp only
   rw [placeL_snoc]
   cases hp : placeL o c' with
   | none =>
    simp only
    by_cases hc : c = c'
    ·rw [if_pos hc]
     simp
    ·rw [if_neg hc]
   | some j =>
    simp only
    have hj := placeL_lt hp
    rw [if_neg (by omega), List.getElem?_append_left hj, markL_snoc]
theorem orderL_ord (s : Sta) (ts : List Tok) : orderL s ts = match ordL s.d s.l.ord ts with
  | .error e => .error e
  | .ok (o, r) => .ok ({ s with l := { s.l with ord := o } }, r) := by
 unfold orderL ordL
 rcases takeK [3, 5] ts with e | ⟨a, r⟩
 ·rfl
 ·simp only
  by_cases h : a.k = 3 ∧ isSign sThru r = true
  ·rw [if_pos h, if_pos h]
   rcases notBelow a (r.drop 1) with e | ⟨b, r'⟩
   ·rfl
   ·simp only [addAllL]
    by_cases h2 : amongB s.l.ord a.n b.n = true
    ·rw [if_pos h2, if_pos h2]
    ·rw [if_neg h2, if_neg h2]
     rcases runAll a s.l.ord a.n (b.n + 1 - a.n) with e | o <;> rfl
  ·rw [if_neg h, if_neg h]
   rcases itemL s.d a with e | c
   ·rfl
   ·simp only
    by_cases h2 : (placeL s.l.ord c).isSome = true
    ·rw [if_pos h2, if_pos h2]
    ·rw [if_neg h2, if_neg h2]
     by_cases h3 : s.l.ord.length = 500
     ·rw [if_pos h3, if_pos h3]
     ·rw [if_neg h3, if_neg h3]
      by_cases h4 : isSign sSemi r = true
      ·rw [if_pos h4, if_pos h4, likeL_new]
       rcases takeK [3, 5] (r.drop 1) with e | ⟨b, r'⟩
       ·rfl
       ·simp only
        rcases itemL s.d b with e | c'
        ·rfl
        ·simp only
         cases placeL s.l.ord c' <;> rfl
      ·rw [if_neg h4, if_neg h4]
theorem runAll_len (a : Tok) : ∀ (k : Nat) (o o' : List Elm) (c : Nat), o.length ≤ 500 → runAll a o c k = .ok o' → o'.length ≤ 500
 | 0, o, o', c, ho, h => by
  unfold runAll at h
  simp at h
  rw [← h]
  exact ho
 | k + 1, o, o', c, ho, h => by
  unfold runAll at h
  by_cases hc : rightN c = true
  ·rw [if_pos hc] at h
   by_cases hl : o.length = 500
   ·rw [if_pos hl] at h
    cases h
   ·rw [if_neg hl] at h
    exact runAll_len a k _ _ _ (by simp; omega) h
  ·rw [if_neg hc] at h
   exact runAll_len a k _ _ _ ho h
theorem addAllL_len {a b : Tok} {o o' : List Elm} (ho : o.length ≤ 500) (h : addAllL o a b = .ok o') : o'.length ≤ 500 := by
 unfold addAllL at h
 split at h
 ·cases h
 ·exact runAll_len a _ _ _ _ ho h
theorem clsL_left {cs cs' : List Cls} {ts r : List Tok} (hE : Ended ts) (h : clsL cs ts = .ok (cs', r)) : Left ts r ∧ cs'.length = cs.length + 1 := by
 unfold clsL at h
 cases h1 : takeK [1] ts with
 | error e => rw [h1] at h; cases h
 | ok y =>
  obtain ⟨n, r1⟩ := y
  have k1 := takeK_left hE h1 (by simp)
  rw [h1] at h
  simp only at h
  split at h
  ·cases h
  ·cases h2 : itemsL rangeL (r1.length + 1) [] r1 with
   | error e => rw [h2] at h; cases h
   | ok z =>
    obtain ⟨rs, r2⟩ := z
    rw [h2] at h
    simp at h
    obtain ⟨rfl, rfl⟩ := h
    exact ⟨k1.trans (itemsL_left rangeL (fun s s' ts r hE h => rangeL_left hE h) _ _ _ _ _ k1.1 h2), by simp⟩
theorem elmL_left {d d' : List (List UInt8 × List Int)} {ts r : List Tok} (hE : Ended ts) (h : elmL d ts = .ok (d', r)) : Left ts r := by
 unfold elmL at h
 cases h1 : takeK [5] ts with
 | error e => rw [h1] at h; cases h
 | ok y =>
  obtain ⟨n, r1⟩ := y
  have k1 := takeK_left hE h1 (by simp)
  rw [h1] at h
  simp only at h
  split at h
  ·cases h
  ·unfold elmB at h
   cases h2 : takeT 1 wFrom r1 with
   | error e => rw [h2] at h; cases h
   | ok z =>
    obtain ⟨u, r2⟩ := z
    have k2 := takeT_left k1.1 h2 (by omega)
    rw [h2] at h
    simp only at h
    unfold elmC at h
    cases h3 : takeK [4] r2 with
    | error e => rw [h3] at h; cases h
    | ok q =>
     obtain ⟨q, r3⟩ := q
     have k3 := takeK_left k2.1 h3 (by simp)
     rw [h3] at h
     simp only at h
     split at h
     ·cases h
     ·simp at h
      obtain ⟨_, rfl⟩ := h
      exact (k1.trans k2).trans k3
theorem likeL_left {d : List (List UInt8 × List Int)} {o o' : List Elm} {own : Nat} {ts r : List Tok} (hE : Ended ts) (h : likeL d o own ts = .ok (o', r)) : Left ts r ∧ o'.length = o.length := by
 unfold likeL at h
 cases h1 : takeK [3, 5] ts with
 | error e => rw [h1] at h; cases h
 | ok y =>
  obtain ⟨b, r1⟩ := y
  have k1 := takeK_left hE h1 (by simp)
  rw [h1] at h
  simp only at h
  cases h2 : itemL d b with
  | error e => rw [h2] at h; cases h
  | ok c =>
   rw [h2] at h
   simp only at h
   cases h3 : placeL o c with
   | none => rw [h3] at h; cases h
   | some j =>
    rw [h3] at h
    simp only at h
    split at h
    ·cases h
    ·simp at h
     obtain ⟨rfl, rfl⟩ := h
     exact ⟨k1, markL_len _ _ _⟩
theorem ordL_left {d : List (List UInt8 × List Int)} {o o' : List Elm} {ts r : List Tok} (hE : Ended ts) (ho : o.length ≤ 500) (h : ordL d o ts = .ok (o', r)) : Left ts r ∧ o'.length ≤ 500 := by
 unfold ordL at h
 cases h1 : takeK [3, 5] ts with
 | error e => rw [h1] at h; cases h
 | ok y =>
  obtain ⟨a, r1⟩ := y
  have k1 := takeK_left hE h1 (by simp)
  rw [h1] at h
  simp only at h
  split at h
  ·rename_i hs
   have k2 := sign_left k1.1 hs.2
   cases h2 : notBelow a (r1.drop 1) with
   | error e => rw [h2] at h; cases h
   | ok z =>
    obtain ⟨b, r2⟩ := z
    rw [h2] at h
    simp only at h
    cases h3 : addAllL o a b with
    | error e => rw [h3] at h; cases h
    | ok o2 =>
     rw [h3] at h
     simp at h
     obtain ⟨rfl, rfl⟩ := h
     exact ⟨(k1.trans k2).trans (notBelow_left k2.1 h2), addAllL_len ho h3⟩
  ·cases h2 : itemL d a with
   | error e => rw [h2] at h; cases h
   | ok c =>
    rw [h2] at h
    simp only at h
    split at h
    ·cases h
    ·split at h
     ·cases h
     ·split at h
      ·rename_i hs
       have k2 := sign_left k1.1 hs
       have h3 := likeL_left k2.1 h
       refine ⟨(k1.trans k2).trans h3.1, ?_⟩
       rw [h3.2]
       simp
       omega
      ·simp at h
       obtain ⟨rfl, rfl⟩ := h
       exact ⟨k1, by simp; omega⟩
end Go.Proofs.YthaibekbefndlaaGreatDoor.C

namespace Go.Proofs.YthaibekbefndlaaGreatDoor.C
open Go.RowKit

theorem LTk.noR {w : World} {b R k : Nat} {T : TV} {v1 v2 v3 v4 v5 : Value} {x : Tok} (h : LTk w b x) (hc : CU w R T k v1 v2 v3 v4 v5) : b ≠ R := by
 rintro rfl
 have e := h.symm.trans hc.1
 simp at e
structure AaI (w : World) (lo R : Nat) (T : TV) (k : Nat) (v1 v2 v3 v4 v5 : Value) (H0 tb : Nat) (a b : Tok) (X : Except Er (List Elm)) (c : Nat) (o' : List Elm) (u4 : Value) (wr : World) : Prop where
 cu : CU wr R T k v1 v2 v3 u4 v5
 od : OrdAt wr lo u4 o'
 len : o'.length ≤ 500
 own : ∀ g, u4.ownBlock = some g → v4.ownBlock = some g ∨ w.heap.size ≤ g
 hi : One wr H0 35 (.int .i32 b.n)
 tk : LTk wr tb a
 fr : Fr w wr (fun j => j = R ∨ v4.ownBlock = some j)
 ans : X = runAll a o' c (b.n + 1 - c)
section
variable {w : World} {lo R : Nat} {T : TV} {k : Nat} {v1 v2 v3 v4 v5 : Value} {H0 tb : Nat} {a b : Tok} {X : Except Er (List Elm)} {c : Nat} {o' : List Elm} {u4 : Value} {wr wr' : World}
theorem AaI.below (h : AaI w lo R T k v1 v2 v3 v4 v5 H0 tb a b X c o' u4 wr) (hb : Below wr.heap.size wr wr') : AaI w lo R T k v1 v2 v3 v4 v5 H0 tb a b X c o' u4 wr' :=
 ⟨h.cu.next hb, h.od.next hb, h.len, h.own, (hb.block _ h.hi.lt).trans h.hi, (hb.block _ h.tk.lt).trans h.tk, h.fr.trans (.of_below hb), h.ans⟩
theorem AaI.more {u5 : Value} {o5 : List Elm} {c5 : Nat} (h : AaI w lo R T k v1 v2 v3 v4 v5 H0 tb a b X c o' u4 wr) (hc : CU wr' R T k v1 v2 v3 u5 v5) (ho : OrdAt wr' lo u5 o5) (hw : ∀ g, u5.ownBlock = some g → u4.ownBlock = some g ∨ wr.heap.size ≤ g) (hf : Fr wr wr' (fun j => j = R ∨ u4.ownBlock = some j)) (hl : o5.length ≤ 500) (hx : X = runAll a o5 c5 (b.n + 1 - c5)) : AaI w lo R T k v1 v2 v3 v4 v5 H0 tb a b X c5 o5 u5 wr' := by
 obtain ⟨vs, hvs, hrow, hrr⟩ := h.od
 have hs := h.fr.size
 refine ⟨hc, ho, hl, ?_, h.hi.fr hf ?_, ?_, h.fr.next hf ?_, hx⟩
 ·intro g e
  rcases hw g e with e | e
  ·exact h.own g e
  ·exact .inr (by omega)
 ·rintro (e | e)
  ·exact h.hi.noR h.cu e
  ·exact row_ne hrow h.hi (by decide) e
 ·refine (hf.block _ h.tk.lt ?_).trans h.tk
  rintro (e | e)
  ·exact h.tk.noR h.cu e
  ·exact row_ne hrow h.tk (by decide) e
 ·rintro j hj (e | e)
  ·exact .inl e
  ·rcases h.own j e with e | e
   ·exact .inr e
   ·omega
end

end Go.Proofs.YthaibekbefndlaaGreatDoor.C

namespace Go.Proofs.YthaibekbefndlaaGreatDoor.C
open Go.RowKit

def prRow (r : Int × Int) : List Value := [.int .i32 r.1, .int .i32 r.2]
def PrsR (w : World) (B : Nat) (v : Value) (l : List (Int × Int)) : Prop := ∃ A c, v = .slice A l.length c ∧ SI 2 w B A l.length (l.map prRow)
def ClsR (w : World) (B : Nat) (v : Value) (cs : List Cls) : Prop := ∃ A c xs, v = .slice A cs.length c ∧ SI 2 w B A cs.length xs ∧ ∀ (i : Nat) (k : Cls), cs[i]? = some k → ∃ u, xs[i]? = some [.string (str k.name), u] ∧ PrsR w B u k.rs ∧ k.name.length ≤ maxLen ∧ k.rs.length ≤ maxLen
def OrdR (w : World) (B : Nat) (v : Value) (o : List Elm) : Prop := ∃ A c xs, v = .slice A o.length c ∧ SI 3 w B A o.length xs ∧ ∀ (i : Nat) (e : Elm), o[i]? = some e → ∃ Ac cc, xs[i]? = some [.string (str e.name), .slice Ac e.cells.length cc, .int .i64 e.same] ∧ RI .i32 w B Ac e.cells.length e.cells ∧ e.name.length ≤ maxLen ∧ e.cells.length ≤ maxLen
section
variable {w w' : World} {B : Nat} {v : Value}
theorem PrsR.keep {l : List (Int × Int)} (h : PrsR w B v l) (hk : ∀ p : Addr, p.block < B → w'.cell? p = w.cell? p) : PrsR w' B v l := by
 obtain ⟨A, c, e, h1⟩ := h
 exact ⟨A, c, e, h1.keep hk⟩
theorem ClsR.keep {l : List Cls} (h : ClsR w B v l) (hk : ∀ p : Addr, p.block < B → w'.cell? p = w.cell? p) : ClsR w' B v l := by
 obtain ⟨A, c, xs, e, h1, h2⟩ := h
 refine ⟨A, c, xs, e, h1.keep hk, fun i k hi => ?_⟩
 obtain ⟨u, a1, a2, a3⟩ := h2 i k hi
 exact ⟨u, a1, a2.keep hk, a3⟩
theorem OrdR.keep {l : List Elm} (h : OrdR w B v l) (hk : ∀ p : Addr, p.block < B → w'.cell? p = w.cell? p) : OrdR w' B v l := by
 obtain ⟨A, c, xs, e, h1, h2⟩ := h
 refine ⟨A, c, xs, e, h1.keep hk, fun i k hi => ?_⟩
 obtain ⟨a, b, a1, a2, a3⟩ := h2 i k hi
 exact ⟨a, b, a1, a2.keep hk, a3⟩
theorem PrsR.on {l : List (Int × Int)} {B' : Nat} (h : PrsR w B v l) (hb : Below B' w w') (hB : B ≤ B') : PrsR w' B v l := h.keep fun p hp => hb.cell (p := p) (by omega)
theorem ClsR.on {l : List Cls} {B' : Nat} (h : ClsR w B v l) (hb : Below B' w w') (hB : B ≤ B') : ClsR w' B v l := h.keep fun p hp => hb.cell (p := p) (by omega)
theorem OrdR.on {l : List Elm} {B' : Nat} (h : OrdR w B v l) (hb : Below B' w w') (hB : B ≤ B') : OrdR w' B v l := h.keep fun p hp => hb.cell (p := p) (by omega)
end
theorem prRow_at {l : List (Int × Int)} {k : Nat} {u v : Value} (h : (l.map prRow)[k]? = some [u, v]) : ∃ r, l[k]? = some r ∧ u = .int .i32 r.1 ∧ v = .int .i32 r.2 := by
 rw [List.getElem?_map] at h
 cases hl : l[k]? with
 | none => rw [hl] at h; cases h
 | some r =>
  rw [hl] at h
  simp [prRow] at h
  exact ⟨r, rfl, h.1.symm, h.2.symm⟩
theorem range_all_true {n : Nat} {f : Nat → Bool} (h : ∀ j, j < n → (!f j) = false) : (List.range n).all f = true := List.all_eq_true.2 fun j hj => by have := h j (List.mem_range.1 hj); simpa using this
theorem range_all_false {n k : Nat} {f : Nat → Bool} (hk : k < n) (h : (!f k) = true) : (List.range n).all f = false := by
 rw [List.all_eq_false]
 exact ⟨k, List.mem_range.2 hk, by simpa using h⟩
def atB {α : Type} (p : α → Bool) (l : List α) (j : Nat) : Bool := match l[j]? with
 | some x => p x
 | none => true
theorem atB_some {α : Type} {p : α → Bool} {l : List α} {j : Nat} {x : α} (h : l[j]? = some x) : atB p l j = p x := by unfold atB; rw [h]
theorem all_range_list {α : Type} (l : List α) (p : α → Bool) : (List.range l.length).all (atB p l) = l.all p := by
 rw [Bool.eq_iff_iff, List.all_eq_true, List.all_eq_true]
 constructor
 ·intro h x hx
  obtain ⟨j, hj, rfl⟩ := List.mem_iff_getElem.1 hx
  have := h j (List.mem_range.2 hj)
  rwa [atB_some (List.getElem?_eq_getElem hj)] at this
 ·intro h j hj
  have hj := List.mem_range.1 hj
  rw [atB_some (List.getElem?_eq_getElem hj)]
  exact h _ (List.getElem_mem hj)
set_option maxRecDepth 100000 in
set_option maxHeartbeats 2000000 in
theorem allRange1_any (W : World) (V0 : Nat) (r : Int × Int) (h : One W V0 117 (.func (.func 59) #[] #[])) :
  Calls Tryz.prog 104 #[.agg #[.int .i32 r.1, .int .i32 r.2], .pointer (some ⟨V0, 0, none⟩)] W fun e w' => e = .returned (.bool (!rangeB r)) ∧ Below W.heap.size W w' := by
 have hi := isRange_any (W.alloc (.cells #[.int .i32 r.1, .int .i32 r.2] 51)) r
 have q0 := (h.alloc (.cells #[.int .i32 r.1, .int .i32 r.2] 51)).cell
 clear h
 obtain ⟨a, b⟩ := r
 go_enter Tryz.func104, Tryz.ntmps104
 go_wp2_with fail
 refine hi.mono ?_
 rintro e w1 ⟨rfl, hb⟩
 have HB := Lib.hid hb
 clear hi hb
 go_wp2
 go_ret
 exact ⟨rfl, ((Below.refl _ _).alloc (Nat.le_refl _) _).trans (HB.out.mono (by simp))⟩
set_option maxRecDepth 100000 in
set_option maxHeartbeats 2000000 in
theorem allRange_any (w : World) (B : Nat) (v : Value) (rs : List (Int × Int)) (h : PrsR w B v rs) (hB : B ≤ w.heap.size) (hn : rs.length ≤ maxLen) :
  Calls Tryz.prog 58 #[v, .func (.func 59) #[] #[]] w fun e w' => e = .returned (.bool (rs.all rangeB)) ∧ Below w.heap.size w w' := by
 obtain ⟨A, c, rfl, hsi⟩ := h
 obtain ⟨W, hW⟩ : ∃ W, W = w.alloc (.cells #[.func (.func 59) #[] #[]] 117) := ⟨_, rfl⟩
 have hb : Below w.heap.size w W := by rw [hW]; exact (Below.refl _ _).alloc (Nat.le_refl _) _
 have hone : One W w.heap.size 117 (.func (.func 59) #[] #[]) := by rw [hW]; exact heap_alloc_new w _
 have hmf : ∀ (fn : Fn) (first cap : Array Value) (w : World), (Instr.makeFunc fn first cap).run Tryz.prog w = .ok (.func fn first cap) w := fun _ _ _ _ => rfl
 have hf := hasRange_any W B A rs.length c (rs.map prRow) w.heap.size (fun j => !atB rangeB rs j) (fun _ w' => Below W.heap.size W w') (fun _ w' => Below W.heap.size W w') hn (Below.refl _ _)
  (fun k w' hw => (hsi.on hb hB).on hw (by have := hb.size; omega))
  (fun k u v w' hx hw => by
   obtain ⟨r, hr, rfl, rfl⟩ := prRow_at hx
   refine (allRange1_any w' w.heap.size r ((hw.block _ hone.lt).trans hone)).mono ?_
   rintro e w2 ⟨rfl, hb2⟩
   have hw2 : Below W.heap.size W w2 := hw.trans ⟨hb2.os, hb2.tape, hb2.output, hb2.size, fun i hi => hb2.block i (by have := hw.size; omega)⟩
   simp only [atB_some hr]
   exact ⟨rfl, fun _ => hw2, fun _ => hw2⟩)
 have HB := Lib.hid hb
 have hbb : ∀ w2, Below W.heap.size W w2 → Below w.heap.size w w2 := fun w2 h2 => HB.out.trans ⟨h2.os, h2.tape, h2.output, h2.size, fun i hi => h2.block i (by have := HB.out.size; omega)⟩
 clear hsi hb hone
 go_enter Tryz.func58, Tryz.ntmps58
 go_wp2_with fail
 rw [← hW]
 refine hf.mono ?_
 rintro e w2 (⟨j, hj, hq, -, rfl, hb2⟩ | ⟨hq, rfl, hb2⟩)
 ·have hp : rs.all rangeB = false := by rw [← all_range_list]; exact range_all_false hj hq
  clear hq hf
  go_wp2
  go_ret
  rw [hp]
  exact ⟨rfl, hbb _ hb2⟩
 ·have hp : rs.all rangeB = true := by rw [← all_range_list]; exact range_all_true hq
  clear hq hf
  go_wp2
  go_ret
  rw [hp]
  exact ⟨rfl, hbb _ hb2⟩
end Go.Proofs.YthaibekbefndlaaGreatDoor.C

namespace Go.Proofs.YthaibekbefndlaaGreatDoor.C
open Go.RowKit

theorem str_empty (l : List UInt8) : (str l).toList.isEmpty = l.isEmpty := by rw [Lib.toList_data, str_list]
theorem elemB_one (nm : List UInt8) (u s : Int) : elemB ⟨nm, [u], s⟩ = (scalB u && nm.isEmpty) := rfl
theorem elemB_more {nm : List UInt8} {xs : List Int} (s : Int) (h : xs.length ≠ 1) : elemB ⟨nm, xs, s⟩ = (quotB xs && wordlyB nm && (numL nm).isNone) := by
 match xs, h with
 | [], _ => rfl
 | [_], h => exact absurd rfl h
 | _ :: _ :: _, _ => rfl
def Three (w : World) (b : Nat) (t : TypeId) (u v x : Value) : Prop := w.heap[b]? = some (.cells #[u, v, x] t (0, 0))
theorem Three.cells {w : World} {b : Nat} {t : TypeId} {u v x : Value} (h : Three w b t u v x) : w.cell? ⟨b, 0, none⟩ = some u ∧ w.cell? ⟨b, 1, none⟩ = some v ∧ w.cell? ⟨b, 2, none⟩ = some x := by simp [World.cell?, show w.heap[b]? = _ from h]
theorem Three.lt {w : World} {b : Nat} {t : TypeId} {u v x : Value} (h : Three w b t u v x) : b < w.heap.size := (Array.getElem?_eq_some_iff.1 h).1
theorem Three.new (w : World) (t : TypeId) (u v x : Value) : Three (w.alloc (.cells #[u, v, x] t)) w.heap.size t u v x := heap_alloc_new w _
set_option maxRecDepth 100000 in
set_option maxHeartbeats 4000000 in
theorem isElem_any (w : World) (B : Nat) (A : Option Addr) (n c : Nat) (nm : List UInt8) (xs : List Int) (s : Int) (h : RI .i32 w B A n xs) (hB : B ≤ w.heap.size) (hG : Gm w) (hn : nm.length ≤ maxLen) :
  Calls Tryz.prog 64 #[.agg #[.string (str nm), .slice A n c, .int .i64 s]] w fun e w' => e = .returned (.bool (elemB ⟨nm, xs, s⟩)) ∧ Below w.heap.size w w' := by
 obtain ⟨W1, hW1⟩ : ∃ W1, W1 = w.alloc (.cells #[.string (str nm), .slice A n c, .int .i64 s] 34) := ⟨_, rfl⟩
 have hb1 : Below w.heap.size w W1 := by rw [hW1]; exact (Below.refl _ _).alloc (Nat.le_refl _) _
 have HB1 := Lib.hid hb1
 have HX1 : Hid (Three W1 w.heap.size 34 (.string (str nm)) (.slice A n c) (.int .i64 s)) := Lib.hid (by rw [hW1]; exact Three.new w _ _ _ _)
 have hG1 := hG.next hb1
 have hs1 := hb1.size
 have hl := h.len
 by_cases h1 : n = 1
 ·subst h1
  obtain ⟨ad, u, rfl, hbl, hu, hc⟩ := h.at_ (k := 0) (by omega)
  have hz : ad.add 0 = ad := by
   unfold Addr.add
   cases ad
   simp
  rw [hz] at hc
  have hxs : xs = [u] := by
   match xs, hl, hu with
   | [x], _, hu => simp at hu; rw [hu]
  subst hxs
  rw [elemB_one]
  have q3 : W1.cell? ad = some (.int .i32 u) := (hb1.cell (by omega)).trans hc
  have hsc := isScalar_any u W1
  have hem := str_empty nm
  rw [hW1] at q3 hsc
  clear h hG hG1 hb1 hu hl hc
  cases hsb : scalB u with
  | false =>
   rw [hsb] at hsc
   clear hsb
   go_enter Tryz.func64, Tryz.ntmps64
   go_wp2_with (go_at_call 63; refine hsc.mono ?_; rintro e w' ⟨rfl, rfl⟩)
   go_ret
   rw [← hW1]
   exact ⟨rfl, HB1.out⟩
  | true =>
   rw [hsb] at hsc
   clear hsb
   obtain ⟨r, hr⟩ : ∃ r, r = nm.isEmpty := ⟨_, rfl⟩
   rw [← hr] at hem ⊢
   clear hr
   go_enter Tryz.func64, Tryz.ntmps64
   go_wp2_with (go_at_call 63; refine hsc.mono ?_; rintro e w' ⟨rfl, rfl⟩)
   go_ret
   rw [← hW1]
   exact ⟨rfl, HB1.out⟩
 have i1 : ¬ (n : Int) = 1 := by omega
 rw [elemB_more s (by omega)]
 have hiq := isQuotable_any W1 B A n c xs (h.keep fun p hp => hb1.cell (by omega)) (by omega) hG1
 rw [hW1] at hiq
 clear h hG hG1 hb1 hl
 cases hq : quotB xs with
 | false =>
  rw [hq] at hiq
  simp only [Bool.false_and]
  clear hq
  go_enter Tryz.func64, Tryz.ntmps64
  go_wp2_with (go_at_call 109; refine hiq.mono ?_; rintro e w2 ⟨rfl, hb⟩; (have HB := Lib.hid hb); clear hb)
  go_ret
  exact ⟨rfl, HB1.out.trans (by rw [hW1]; exact HB.out.mono (by simp))⟩
 | true =>
  rw [hq] at hiq
  simp only [Bool.true_and]
  clear hq
  have hiw := fun W => isWord_any (str nm) W (by rw [str_size]; unfold maxLen at hn; omega)
  rw [str_list] at hiw
  have hsn := fun W => isScalarName_any nm W hn
  have hstep : ∀ w2, Below (w.alloc (.cells #[.string (str nm), .slice A n c, .int .i64 s] 34)).heap.size (w.alloc (.cells #[.string (str nm), .slice A n c, .int .i64 s] 34)) w2 → w2.cell? ⟨w.heap.size, 0, none⟩ = some (.string (str nm)) := by
   rw [← hW1]
   intro w2 hb
   exact (show Three w2 w.heap.size _ _ _ _ from (hb.block _ HX1.out.lt).trans HX1.out).cells.1
  have HST := Lib.hid hstep
  clear hstep
  cases hwd : wordlyB nm with
  | false =>
   rw [hwd] at hiw
   simp only [Bool.false_and]
   clear hwd hsn
   go_enter Tryz.func64, Tryz.ntmps64
   go_wp2_with (first
    | (go_at_call 109; refine hiq.mono ?_; rintro e w2 ⟨rfl, hb⟩; (have q9 := HST.out w2 hb); (have HB := Lib.hid hb); clear hb)
    | (go_at_call 57; refine (hiw _).mono ?_; rintro e w3 ⟨rfl, hb3⟩; (have HB3 := Lib.hid hb3); clear hb3))
   go_ret
   exact ⟨rfl, HB1.out.trans (by rw [hW1]; exact (HB.out.trans (HB3.out.mono HB.out.size)).mono (by simp))⟩
  | true =>
   rw [hwd] at hiw
   simp only [Bool.true_and]
   obtain ⟨r, hr⟩ : ∃ r, r = (numL nm).isSome := ⟨_, rfl⟩
   have hnr : (numL nm).isNone = !r := by rw [hr]; cases numL nm <;> rfl
   rw [← hr] at hsn
   rw [hnr]
   clear hwd hr hnr
   go_enter Tryz.func64, Tryz.ntmps64
   go_wp2_with (first
    | (go_at_call 109; refine hiq.mono ?_; rintro e w2 ⟨rfl, hb⟩; (have q9 := HST.out w2 hb); (have HB := Lib.hid hb); clear hb)
    | (go_at_call 57; refine (hiw _).mono ?_; rintro e w3 ⟨rfl, hb3⟩; (have q8 := HST.out w3 (HB.out.trans (hb3.mono HB.out.size))); (have HB3 := Lib.hid hb3); clear hb3)
    | (go_at_call 110; refine (hsn _).mono ?_; rintro e w4 ⟨rfl, hb4⟩; (have HB4 := Lib.hid hb4); clear hb4))
   go_ret
   have hb3 := HB.out.trans (HB3.out.mono HB.out.size)
   exact ⟨rfl, HB1.out.trans (by rw [hW1]; exact (hb3.trans (HB4.out.mono hb3.size)).mono (by simp))⟩
theorem SI.at_same {w : World} {B : Nat} {A : Option Addr} {o : List Elm} {xs : List (List Value)} {i : Nat} {e : Elm} (hsi : SI 3 w B A o.length xs) (hel : ∃ Ac cc, xs[i]? = some [.string (str e.name), .slice Ac e.cells.length cc, .int .i64 e.same]) (hi : i < o.length) : ∃ ad : Addr, A = some ad ∧ w.cell? ⟨(ad.add (i * 3)).block, (ad.add (i * 3)).off + 2, none⟩ = some (.int .i64 e.same) := by
 obtain ⟨ad, a, b, z, hA, _, hx, _, _, c2⟩ := hsi.at3 hi
 obtain ⟨Ac, cc, hxe⟩ := hel
 rw [hx] at hxe
 simp at hxe
 rw [hxe.2.2] at c2
 exact ⟨ad, hA, c2⟩
set_option maxRecDepth 100000 in
set_option maxHeartbeats 2000000 in
theorem rightSame_any (w : World) (B : Nat) (v : Value) (o : List Elm) (h : OrdR w B v o) (i : Nat) (e : Elm) (he : o[i]? = some e) :
  Calls Tryz.prog 66 #[v, .int .i64 i] w fun r w' => r = .returned (.bool (sameAt o i e)) ∧ w' = w := by
 obtain ⟨A, c, xs, rfl, hsi, hel⟩ := h
 have hi : i < o.length := (List.getElem?_eq_some_iff.1 he).1
 have hAt : ∀ (j : Nat) (x : Elm), o[j]? = some x → ∃ Ac cc, xs[j]? = some [.string (str x.name), .slice Ac x.cells.length cc, .int .i64 x.same] := fun j x hx => by
  obtain ⟨a, b, h1, _⟩ := hel j x hx
  exact ⟨a, b, h1⟩
 obtain ⟨ad, rfl, q0⟩ := hsi.at_same (hAt i e he) hi
 have i0 : (0 : Int) ≤ (i : Int) := by omega
 have i1 : (i : Int) < (o.length : Int) := by omega
 by_cases h0 : 0 ≤ e.same
 ·by_cases h1 : e.same ≤ i
  ·have hj : e.same.toNat < o.length := by omega
   obtain ⟨x, hx⟩ : ∃ x, o[e.same.toNat]? = some x := ⟨_, List.getElem?_eq_getElem hj⟩
   obtain ⟨ad2, had, q1⟩ := hsi.at_same (hAt _ x hx) hj
   injection had with had
   subst had
   have hr : sameAt o i e = decide (x.same = e.same) := by unfold sameAt; rw [hx, decide_eq_true ⟨h0, h1⟩]; rfl
   rw [hr]
   obtain ⟨j, hjn⟩ : ∃ j, j = e.same.toNat := ⟨_, rfl⟩
   rw [← hjn] at q1 hj
   have hse : e.same = (j : Int) := by omega
   rw [hse] at q0 ⊢
   have j0 : (0 : Int) ≤ (j : Int) := by omega
   have j1 : (j : Int) ≤ (i : Int) := by omega
   have j2 : (j : Int) < (o.length : Int) := by omega
   obtain ⟨y, hy⟩ : ∃ y, y = x.same := ⟨_, rfl⟩
   rw [← hy] at q1 ⊢
   clear hsi hel hAt he hr hx hjn hse h0 h1 hy
   go_enter Tryz.func66, Tryz.ntmps66
   go_wp2
   go_ret
   exact ⟨rfl, rfl⟩
  ·have hr : sameAt o i e = false := by unfold sameAt; rw [decide_eq_false (fun h => h1 h.2)]; rfl
   rw [hr]
   clear hsi hel hAt he hr
   go_enter Tryz.func66, Tryz.ntmps66
   go_wp2
   go_ret
   exact ⟨rfl, rfl⟩
 ·have hr : sameAt o i e = false := by unfold sameAt; rw [decide_eq_false (fun h => h0 h.1)]; rfl
  rw [hr]
  clear hsi hel hAt he hr
  go_enter Tryz.func66, Tryz.ntmps66
  go_wp2
  go_ret
  exact ⟨rfl, rfl⟩
end Go.Proofs.YthaibekbefndlaaGreatDoor.C
