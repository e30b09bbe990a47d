/-
  Joined: LdI, LdH. Each with what its own head says.
-/
import Derived.Test.YthaibekbefndlaaGreatDoorH12

namespace Go.Proofs.YthaibekbefndlaaGreatDoor.C
open Go.RowKit

def addAllL (o : List Elm) (a b : Tok) : Except Er (List Elm) := if amongB o a.n b.n then .error (32, a.at_) else runAll a o a.n (b.n + 1 - a.n)
def ordL (d : List (List UInt8 × List Int)) (o : List Elm) (ts : List Tok) : Re (List Elm) :=
 match takeK [3, 5] ts with
 | .error e => .error e
 | .ok (a, r) => if a.k = 3 ∧ isSign sThru r = true then
   match notBelow a (r.drop 1) with
   | .error e => .error e
   | .ok (b, r') => match addAllL o a b with
    | .error e => .error e
    | .ok o' => .ok (o', r')
  else match itemL d a with
   | .error e => .error e
   | .ok c => if (placeL o c).isSome then .error (32, a.at_) else
    if o.length = 500 then .error (3, a.at_) else
    if isSign sSemi r then likeL d (o ++ [⟨a.t, c, o.length⟩]) o.length (r.drop 1)
    else .ok (o ++ [⟨a.t, c, o.length⟩], r)
theorem placeL_lt {o : List Elm} {c : List Int} {j : Nat} (h : placeL o c = some j) : j < o.length := by
 unfold placeL at h
 rw [List.findIdx?_eq_some_iff_getElem] at h
 exact h.1
theorem placeL_snoc (o : List Elm) (e : Elm) (c : List Int) : placeL (o ++ [e]) c = match placeL o c with
  | some j => some j
  | none => if e.cells = c then some o.length else none := by
 unfold placeL
 rw [List.findIdx?_append]
 cases List.findIdx? (fun e => decide (e.cells = c)) o with
 | some j => rfl
 | none =>
  by_cases h : e.cells = c
  ·simp [h]
  ·simp [h]
theorem markL_snoc (o : List Elm) (t : List UInt8) (c : List Int) (s z : Int) : markL (o ++ [⟨t, c, s⟩]) o.length z = o ++ [⟨t, c, z⟩] := by
 unfold markL
 rw [List.getElem?_append_right (Nat.le_refl _), Nat.sub_self]
 simp
theorem likeL_new (d : List (List UInt8 × List Int)) (o : List Elm) (t : List UInt8) (c : List Int) (ts : List Tok) : likeL d (o ++ [⟨t, c, o.length⟩]) o.length ts = match takeK [3, 5] ts with
  | .error e => .error e
  | .ok (b, r) => match itemL d b with
   | .error e => .error e
   | .ok c' => match placeL o c' with
    | none => .error (31, b.at_)
    | some j => .ok (o ++ [⟨t, c, ((o[j]?).map Elm.same).getD 0⟩], r) := by
 unfold likeL
 rcases takeK [3, 5] ts with e | ⟨b, r⟩
 ·rfl
 ·simp only
  rcases itemL d b with e | c'
  ·rfl
  ·simp only
   rw [placeL_snoc]
   cases hp : placeL o c' with
   | none =>
    simp only
    by_cases hc : c = c'
    ·rw [if_pos hc]
     simp
    ·rw [if_neg hc]
   | some j =>
    simp only
    have hj := placeL_lt hp
    rw [if_neg (by omega), List.getElem?_append_left hj, markL_snoc]
theorem orderL_ord (s : Sta) (ts : List Tok) : orderL s ts = match ordL s.d s.l.ord ts with
  | .error e => .error e
  | .ok (o, r) => .ok ({ s with l := { s.l with ord := o } }, r) := by
 unfold orderL ordL
 rcases takeK [3, 5] ts with e | ⟨a, r⟩
 ·rfl
 ·simp only
  by_cases h : a.k = 3 ∧ isSign sThru r = true
  ·rw [if_pos h, if_pos h]
   rcases notBelow a (r.drop 1) with e | ⟨b, r'⟩
   ·rfl
   ·simp only [addAllL]
    by_cases h2 : amongB s.l.ord a.n b.n = true
    ·rw [if_pos h2, if_pos h2]
    ·rw [if_neg h2, if_neg h2]
     rcases runAll a s.l.ord a.n (b.n + 1 - a.n) with e | o <;> rfl
  ·rw [if_neg h, if_neg h]
   rcases itemL s.d a with e | c
   ·rfl
   ·simp only
    by_cases h2 : (placeL s.l.ord c).isSome = true
    ·rw [if_pos h2, if_pos h2]
    ·rw [if_neg h2, if_neg h2]
     by_cases h3 : s.l.ord.length = 500
     ·rw [if_pos h3, if_pos h3]
     ·rw [if_neg h3, if_neg h3]
      by_cases h4 : isSign sSemi r = true
      ·rw [if_pos h4, if_pos h4, likeL_new]
       rcases takeK [3, 5] (r.drop 1) with e | ⟨b, r'⟩
       ·rfl
       ·simp only
        rcases itemL s.d b with e | c'
        ·rfl
        ·simp only
         cases placeL s.l.ord c' <;> rfl
      ·rw [if_neg h4, if_neg h4]
theorem runAll_len (a : Tok) : ∀ (k : Nat) (o o' : List Elm) (c : Nat), o.length ≤ 500 → runAll a o c k = .ok o' → o'.length ≤ 500
 | 0, o, o', c, ho, h => by
  unfold runAll at h
  simp at h
  rw [← h]
  exact ho
 | k + 1, o, o', c, ho, h => by
  unfold runAll at h
  by_cases hc : rightN c = true
  ·rw [if_pos hc] at h
   by_cases hl : o.length = 500
   ·rw [if_pos hl] at h
    cases h
   ·rw [if_neg hl] at h
    exact runAll_len a k _ _ _ (by simp; omega) h
  ·rw [if_neg hc] at h
   exact runAll_len a k _ _ _ ho h
theorem addAllL_len {a b : Tok} {o o' : List Elm} (ho : o.length ≤ 500) (h : addAllL o a b = .ok o') : o'.length ≤ 500 := by
 unfold addAllL at h
 split at h
 ·cases h
 ·exact runAll_len a _ _ _ _ ho h
theorem clsL_left {cs cs' : List Cls} {ts r : List Tok} (hE : Ended ts) (h : clsL cs ts = .ok (cs', r)) : Left ts r ∧ cs'.length = cs.length + 1 := by
 unfold clsL at h
 cases h1 : takeK [1] ts with
 | error e => rw [h1] at h; cases h
 | ok y =>
  obtain ⟨n, r1⟩ := y
  have k1 := takeK_left hE h1 (by simp)
  rw [h1] at h
  simp only at h
  split at h
  ·cases h
  ·cases h2 : itemsL rangeL (r1.length + 1) [] r1 with
   | error e => rw [h2] at h; cases h
   | ok z =>
    obtain ⟨rs, r2⟩ := z
    rw [h2] at h
    simp at h
    obtain ⟨rfl, rfl⟩ := h
    exact ⟨k1.trans (itemsL_left rangeL (fun s s' ts r hE h => rangeL_left hE h) _ _ _ _ _ k1.1 h2), by simp⟩
theorem elmL_left {d d' : List (List UInt8 × List Int)} {ts r : List Tok} (hE : Ended ts) (h : elmL d ts = .ok (d', r)) : Left ts r := by
 unfold elmL at h
 cases h1 : takeK [5] ts with
 | error e => rw [h1] at h; cases h
 | ok y =>
  obtain ⟨n, r1⟩ := y
  have k1 := takeK_left hE h1 (by simp)
  rw [h1] at h
  simp only at h
  split at h
  ·cases h
  ·unfold elmB at h
   cases h2 : takeT 1 wFrom r1 with
   | error e => rw [h2] at h; cases h
   | ok z =>
    obtain ⟨u, r2⟩ := z
    have k2 := takeT_left k1.1 h2 (by omega)
    rw [h2] at h
    simp only at h
    unfold elmC at h
    cases h3 : takeK [4] r2 with
    | error e => rw [h3] at h; cases h
    | ok q =>
     obtain ⟨q, r3⟩ := q
     have k3 := takeK_left k2.1 h3 (by simp)
     rw [h3] at h
     simp only at h
     split at h
     ·cases h
     ·simp at h
      obtain ⟨_, rfl⟩ := h
      exact (k1.trans k2).trans k3
theorem likeL_left {d : List (List UInt8 × List Int)} {o o' : List Elm} {own : Nat} {ts r : List Tok} (hE : Ended ts) (h : likeL d o own ts = .ok (o', r)) : Left ts r ∧ o'.length = o.length := by
 unfold likeL at h
 cases h1 : takeK [3, 5] ts with
 | error e => rw [h1] at h; cases h
 | ok y =>
  obtain ⟨b, r1⟩ := y
  have k1 := takeK_left hE h1 (by simp)
  rw [h1] at h
  simp only at h
  cases h2 : itemL d b with
  | error e => rw [h2] at h; cases h
  | ok c =>
   rw [h2] at h
   simp only at h
   cases h3 : placeL o c with
   | none => rw [h3] at h; cases h
   | some j =>
    rw [h3] at h
    simp only at h
    split at h
    ·cases h
    ·simp at h
     obtain ⟨rfl, rfl⟩ := h
     exact ⟨k1, markL_len _ _ _⟩
theorem ordL_left {d : List (List UInt8 × List Int)} {o o' : List Elm} {ts r : List Tok} (hE : Ended ts) (ho : o.length ≤ 500) (h : ordL d o ts = .ok (o', r)) : Left ts r ∧ o'.length ≤ 500 := by
 unfold ordL at h
 cases h1 : takeK [3, 5] ts with
 | error e => rw [h1] at h; cases h
 | ok y =>
  obtain ⟨a, r1⟩ := y
  have k1 := takeK_left hE h1 (by simp)
  rw [h1] at h
  simp only at h
  split at h
  ·rename_i hs
   have k2 := sign_left k1.1 hs.2
   cases h2 : notBelow a (r1.drop 1) with
   | error e => rw [h2] at h; cases h
   | ok z =>
    obtain ⟨b, r2⟩ := z
    rw [h2] at h
    simp only at h
    cases h3 : addAllL o a b with
    | error e => rw [h3] at h; cases h
    | ok o2 =>
     rw [h3] at h
     simp at h
     obtain ⟨rfl, rfl⟩ := h
     exact ⟨(k1.trans k2).trans (notBelow_left k2.1 h2), addAllL_len ho h3⟩
  ·cases h2 : itemL d a with
   | error e => rw [h2] at h; cases h
   | ok c =>
    rw [h2] at h
    simp only at h
    split at h
    ·cases h
    ·split at h
     ·cases h
     ·split at h
      ·rename_i hs
       have k2 := sign_left k1.1 hs
       have h3 := likeL_left k2.1 h
       refine ⟨(k1.trans k2).trans h3.1, ?_⟩
       rw [h3.2]
       simp
       omega
      ·simp at h
       obtain ⟨rfl, rfl⟩ := h
       exact ⟨k1, by simp; omega⟩
end Go.Proofs.YthaibekbefndlaaGreatDoor.C

namespace Go.Proofs.YthaibekbefndlaaGreatDoor.C
open Go.RowKit

theorem LTk.noR {w : World} {b R k : Nat} {T : TV} {v1 v2 v3 v4 v5 : Value} {x : Tok} (h : LTk w b x) (hc : CU w R T k v1 v2 v3 v4 v5) : b ≠ R := by
 rintro rfl
 have e := h.symm.trans hc.1
 simp at e
def AaTold (w : World) (lo R : Nat) (T : TV) (k : Nat) (v1 v2 v3 v4 v5 : Value) : Except Er (List Elm) → Ending → World → Prop
 | .ok o', e, w' => ∃ u4, e = .returned (.tuple #[]) ∧ CU w' R T k v1 v2 v3 u4 v5 ∧ OrdAt w' lo u4 o' ∧ (∀ g, u4.ownBlock = some g → v4.ownBlock = some g ∨ w.heap.size ≤ g) ∧ Fr w w' (fun j => j = R ∨ v4.ownBlock = some j)
 | .error er, e, w' => e = .panicked (faultV er.1 er.2) ∧ Fr w w' (fun j => j = R ∨ v4.ownBlock = some j)
structure AaI (w : World) (lo R : Nat) (T : TV) (k : Nat) (v1 v2 v3 v4 v5 : Value) (H0 tb : Nat) (a b : Tok) (X : Except Er (List Elm)) (c : Nat) (o' : List Elm) (u4 : Value) (wr : World) : Prop where
 cu : CU wr R T k v1 v2 v3 u4 v5
 od : OrdAt wr lo u4 o'
 len : o'.length ≤ 500
 own : ∀ g, u4.ownBlock = some g → v4.ownBlock = some g ∨ w.heap.size ≤ g
 hi : One wr H0 35 (.int .i32 b.n)
 tk : LTk wr tb a
 fr : Fr w wr (fun j => j = R ∨ v4.ownBlock = some j)
 ans : X = runAll a o' c (b.n + 1 - c)
theorem among_any {o : List Elm} {l h : Int} : amongB o l h = true ↔ ∃ j : Nat, j < o.length ∧ (match o[j]? with | some e => amB e.cells l h | none => false) = true := by
 unfold amongB
 rw [List.any_eq_true]
 constructor
 ·rintro ⟨e, he, hb⟩
  obtain ⟨j, hj, rfl⟩ := List.mem_iff_getElem.1 he
  exact ⟨j, hj, by rw [List.getElem?_eq_getElem hj]; exact hb⟩
 ·rintro ⟨j, hj, hb⟩
  rw [List.getElem?_eq_getElem hj] at hb
  exact ⟨_, List.getElem_mem hj, hb⟩
section
variable {w : World} {lo R : Nat} {T : TV} {k : Nat} {v1 v2 v3 v4 v5 : Value} {H0 tb : Nat} {a b : Tok} {X : Except Er (List Elm)} {c : Nat} {o' : List Elm} {u4 : Value} {wr wr' : World}
theorem AaI.below (h : AaI w lo R T k v1 v2 v3 v4 v5 H0 tb a b X c o' u4 wr) (hb : Below wr.heap.size wr wr') : AaI w lo R T k v1 v2 v3 v4 v5 H0 tb a b X c o' u4 wr' :=
 ⟨h.cu.next hb, h.od.next hb, h.len, h.own, (hb.block _ h.hi.lt).trans h.hi, (hb.block _ h.tk.lt).trans h.tk, h.fr.trans (.of_below hb), h.ans⟩
theorem AaI.more {u5 : Value} {o5 : List Elm} {c5 : Nat} (h : AaI w lo R T k v1 v2 v3 v4 v5 H0 tb a b X c o' u4 wr) (hc : CU wr' R T k v1 v2 v3 u5 v5) (ho : OrdAt wr' lo u5 o5) (hw : ∀ g, u5.ownBlock = some g → u4.ownBlock = some g ∨ wr.heap.size ≤ g) (hf : Fr wr wr' (fun j => j = R ∨ u4.ownBlock = some j)) (hl : o5.length ≤ 500) (hx : X = runAll a o5 c5 (b.n + 1 - c5)) : AaI w lo R T k v1 v2 v3 v4 v5 H0 tb a b X c5 o5 u5 wr' := by
 obtain ⟨vs, hvs, hrow, hrr⟩ := h.od
 have hs := h.fr.size
 refine ⟨hc, ho, hl, ?_, h.hi.fr hf ?_, ?_, h.fr.next hf ?_, hx⟩
 ·intro g e
  rcases hw g e with e | e
  ·exact h.own g e
  ·exact .inr (by omega)
 ·rintro (e | e)
  ·exact h.hi.noR h.cu e
  ·exact row_ne hrow h.hi (by decide) e
 ·refine (hf.block _ h.tk.lt ?_).trans h.tk
  rintro (e | e)
  ·exact h.tk.noR h.cu e
  ·exact row_ne hrow h.tk (by decide) e
 ·rintro j hj (e | e)
  ·exact .inl e
  ·rcases h.own j e with e | e
   ·exact .inr e
   ·omega
end

set_option maxRecDepth 100000 in
set_option maxHeartbeats 8000000 in
theorem addAll_any (w : World) (lo R : Nat) (T : TV) (k : Nat) (v1 v2 v3 v4 v5 : Value) (a b : Tok) (o : List Elm) (h : CU w R T k v1 v2 v3 v4 v5) (ho : OrdAt w lo v4 o) (hn : o.length ≤ 500) (ha : a.n ≤ 1114111) (hb : b.n ≤ 1114111) (hlo : R < lo) (hlw : lo ≤ w.heap.size) :
  Calls Tryz.prog 131 #[.pointer (some ⟨R, 0, none⟩), tkV a, tkV b] w (AaTold w lo R T k v1 v2 v3 v4 v5 (addAllL o a b)) := by
 obtain ⟨A, cap, rfl⟩ := ho.form
 obtain ⟨W1, hW1⟩ : ∃ W1, W1 = (w.alloc (.cells #[.int .u8 a.k, .string (str a.t), .int .i64 a.n, .int .i64 a.at_] 92)).alloc (.cells #[.int .u8 b.k, .string (str b.t), .int .i64 b.n, .int .i64 b.at_] 92) := ⟨_, rfl⟩
 have hs1 : W1.heap.size = w.heap.size + 2 := by rw [hW1]; simp
 have hb1 : Below w.heap.size w W1 := by rw [hW1]; exact ((Below.refl _ _).alloc (Nat.le_refl _) _).alloc (by simp) _
 have HTa : Hid (LTk W1 w.heap.size a) := Lib.hid (by rw [hW1]; exact (LTk.new w a).alloc _)
 have HTb : Hid (LTk W1 (w.heap.size + 1) b) := Lib.hid (by rw [hW1]; exact LTk.at_ (by simp) b)
 have HC1 := Lib.hid (h.next hb1)
 have HO1 := Lib.hid (ho.next hb1)
 have HB1 := Lib.hid hb1
 have a0 : (0 : Int) ≤ (a.n : Int) := by omega
 have a1 : (a.n : Int) ≤ 1114111 := by omega
 have b0 : (0 : Int) ≤ (b.n : Int) := by omega
 have b1 : (b.n : Int) ≤ 1114111 := by omega
 have e1 : IntKind.i32.wrap (a.n : Int) = (a.n : Int) := wrap32 a0 a1
 have e4 : IntKind.i32.wrap (b.n : Int) = (b.n : Int) := wrap32 b0 b1
 have hR := h.lt
 have hmf : ∀ (fn : Fn) (first cap : Array Value) (w : World), (Instr.makeFunc fn first cap).run Tryz.prog w = .ok (.func fn first cap) w := fun _ _ _ _ => rfl
 obtain ⟨X, hX⟩ : ∃ X, X = addAllL o a b := ⟨_, rfl⟩
 rw [← hX]
 unfold addAllL at hX
 have HX := Lib.hid hX
 clear h ho hb1 hX
 unfold tkV
 go_enter Tryz.func131, Tryz.ntmps131
 go_wp2
 rw [← hW1]
 clear hW1
 have q1 := HTa.out.drew.cells.2.2.1
 have q2 := HTb.out.drew.cells.2.2.1
 have q3 := HTa.out.cells.2.2.1
 have q4 := HTb.out.cells.2.2.1
 have m1 := World.new_ne W1 _ HTa.out.cells.2.2.1
 have m2 := World.new_ne W1 _ HTb.out.cells.2.2.1
 have m3 : w.heap.size ≠ W1.heap.size + 1 := by omega
 have m4 : w.heap.size + 1 ≠ W1.heap.size + 1 := by omega
 have hs1' := Lib.hid hs1
 clear hs1
 go_region_held3 (fun W => W.cell? ⟨w.heap.size, 2, none⟩ = some (.int .i64 a.n) ∧ W.cell? ⟨w.heap.size + 1, 2, none⟩ = some (.int .i64 b.n)) (go_keep) (fail)
 ·obtain ⟨W2, hW2⟩ : ∃ W2, W2 = (W1.alloc (.cells #[.int .i32 a.n] 35)).alloc (.cells #[.int .i32 b.n] 35) := ⟨_, rfl⟩
  have hb2 : Below W1.heap.size W1 W2 := by rw [hW2]; exact ((Below.refl _ _).alloc (Nat.le_refl _) _).alloc (by simp) _
  have hNew : One W2 W1.heap.size 35 (.int .i32 a.n) ∧ One W2 (W1.heap.size + 1) 35 (.int .i32 b.n) := by
   rw [hW2]
   refine ⟨One.alloc (show One (W1.alloc _) W1.heap.size _ _ from heap_alloc_new W1 _) _, ?_⟩
   have := heap_alloc_new (W1.alloc (.cells #[.int .i32 a.n] 35)) (.cells #[.int .i32 b.n] 35)
   rw [World.size_alloc] at this
   exact this
  have HLH : Hid (One W2 (W1.heap.size) 35 (.int .i32 a.n) ∧ One W2 (W1.heap.size + 1) 35 (.int .i32 b.n)) := Lib.hid hNew
  have HT2 : Hid (LTk W2 w.heap.size a) := Lib.hid ((hb2.block _ HTa.out.lt).trans HTa.out)
  have HC2 := Lib.hid (HC1.out.next hb2)
  have HO2 := Lib.hid (HO1.out.next hb2)
  have HF2 : Hid (Fr w W2 (fun j => j = R ∨ (Value.slice A o.length cap).ownBlock = some j)) := Lib.hid ((Fr.of_below HB1.out).trans (.of_below hb2))
  clear hb2 hNew q1 q2 q3 q4 m1 m2 m3 m4
  try rw [← hW2]
  try change Exit.then _ _ _ _ W2.drew
  clear hW2
  obtain ⟨Wb, hWb⟩ : ∃ Wb, Wb = W1.heap.size + 1 := ⟨_, rfl⟩
  rw [← hWb] at HLH ⊢
  clear hWb
  obtain ⟨Wa, hWa⟩ : ∃ Wa, Wa = W1.heap.size := ⟨_, rfl⟩
  rw [← hWa] at HLH ⊢
  clear hWa
  obtain ⟨L0, hL0⟩ : ∃ L0, L0 = Wa := ⟨_, rfl⟩
  obtain ⟨H0, hH0⟩ : ∃ H0, H0 = Wb := ⟨_, rfl⟩
  rw [← hL0, ← hH0] at HLH ⊢
  clear hL0 hH0
  obtain ⟨vs, h1, h2, h3⟩ := HO2.out
  have hfind := hasAmong_any W2.drew W2.heap.size A o.length cap (ordR o vs) L0 H0 (fun j => match o[j]? with | some e => amB e.cells a.n b.n | none => false) (fun _ w' => Below W2.heap.size W2 w') (fun _ w' => Below W2.heap.size W2 w') (by unfold maxLen; omega) (below_drew (Below.refl _ _))
   (fun k w' hw => (SI.of_own h2 (ordR_len h1) ordR_each).on hw (Nat.le_refl _))
   (fun k x y z w' hx hw => by
    obtain ⟨e, u, he, hvx, hxe⟩ := ordR_at hx
    simp at hxe
    obtain ⟨rfl, rfl, rfl⟩ := hxe
    have hc := h3 k e y he hvx
    obtain ⟨Ax, cx, rfl⟩ := cells_form hc
    have hxs : RI .i32 W2 W2.heap.size Ax e.cells.length e.cells := RI.of_own hc
    have hl := hw.size
    refine (addAll1_any w' (str e.name) e.same Ax e.cells.length cx L0 H0 e.cells a.n b.n ((hxs.keep fun p hp => hw.cell hp).more hl) ((hw.block _ HLH.out.1.lt).trans HLH.out.1) ((hw.block _ HLH.out.2.lt).trans HLH.out.2)).mono ?_
    rintro e2 w2 ⟨rfl, hb2⟩
    have hw2 : Below W2.heap.size W2 w2 := hw.trans ⟨hb2.os, hb2.tape, hb2.output, hb2.size, fun i hi => hb2.block i (by omega)⟩
    simp only [he]
    exact ⟨rfl, fun _ => hw2, fun _ => hw2⟩)
  have q5 : W2.drew.cell? ⟨R, 5, none⟩ = some (.slice A o.length cap) := HC2.out.drew.more.2.2.2.1
  have HFI := Lib.hid hfind
  clear h1 h2 h3 hfind
  go_wp2_with fail
  refine HFI.out.mono ?_
  rintro e w3 (⟨j, hj, hq, -, rfl, hb3⟩ | ⟨hq, rfl, hb3⟩)
  ·have hX2 : Hid (X = .error (32, a.at_)) := Lib.hid (by have := HX.out; rw [if_pos (among_any.2 ⟨j, hj, hq⟩)] at this; exact this)
   have HT3 : Hid (LTk w3 w.heap.size a) := Lib.hid ((hb3.block _ HT2.out.lt).trans HT2.out)
   have HF3 := Lib.hid (HF2.out.trans (.of_below hb3))
   have hrf := fun W => refuse_any 32 a W
   unfold tkV at hrf
   obtain ⟨t0, t1, t2, t3⟩ := HT3.out.cells
   clear hb3 hq hj
   go_wp2_with fail
   refine (hrf _).mono ?_
   rintro e w4 ⟨rfl, hb4⟩
   have eX := hX2.out
   subst eX
   exact ⟨rfl, rfl, HF3.out.trans (.of_below hb4)⟩
  have hX2 : Hid (X = runAll a o a.n (b.n + 1 - a.n)) := Lib.hid (by
   have := HX.out
   rw [if_neg (fun h => by
    obtain ⟨j, hj, hb⟩ := among_any.1 h
    exact absurd (hb.symm.trans (hq j hj)) (by simp))] at this
   exact this)
  have HI3 : Hid (AaI w lo R T k v1 v2 v3 (.slice A o.length cap) v5 H0 w.heap.size a b X a.n o (.slice A o.length cap) w3) := Lib.hid ⟨HC2.out.next hb3, HO2.out.next hb3, hn, fun g e => .inl e, (hb3.block _ HLH.out.2.lt).trans HLH.out.2, (hb3.block _ HT2.out.lt).trans HT2.out, HF2.out.trans (.of_below hb3), hX2.out⟩
  have qL : w3.cell? ⟨L0, 0, none⟩ = some (.int .i32 a.n) := ((show One w3 L0 _ _ from (hb3.block _ HLH.out.1.lt).trans HLH.out.1)).cell
  clear hb3 hq HFI
  go_wp2
  go_loopw [8] (fun iv wr => ∃ (c : Nat) (o' : List Elm) (u4 : Value), iv = .int .i32 c ∧ c ≤ 1114112 ∧ Hid (AaI w lo R T k v1 v2 v3 (.slice A o.length cap) v5 H0 w.heap.size a b X c o' u4 wr)) (fun iv _ => b.n + 1 - (intOf iv).toNat)
  case atStart => exact ⟨a.n, o, _, rfl, by omega, HI3⟩
  case round =>
   obtain ⟨c, o', u4, rfl, hc9, HI⟩ := hrel
   have qH := HI.out.hi.cell
   by_cases hlt : c ≤ b.n
   ·have i1 : (c : Int) ≤ (b.n : Int) := by omega
    have i2 : IntKind.i32.wrap ((c : Int) + 1) = ((c + 1 : Nat) : Int) := by
     rw [IntKind.wrap_i32]
     omega
    have hm : b.n + 1 - c = (b.n + 1 - (c + 1)) + 1 := by omega
    cases hrc : rightN c with
    | false =>
     have his := fun W => isScalar_nat c W false hrc
     have HI4 : Hid (AaI w lo R T k v1 v2 v3 (.slice A o.length cap) v5 H0 w.heap.size a b X (c + 1) o' u4 wr) := Lib.hid ⟨HI.out.cu, HI.out.od, HI.out.len, HI.out.own, HI.out.hi, HI.out.tk, HI.out.fr, by
      have := HI.out.ans
      rw [hm, runAll, if_neg (by rw [hrc]; simp)] at this
      exact this⟩
     clear hrc hm
     go_wp2_with (go_at_call 63; refine (his _).mono ?_; rintro e w4 ⟨rfl, rfl⟩)
     go_roundw
     case rel => exact ⟨c + 1, o', u4, by go_num, by omega, HI4⟩
     case measure => simp only [intOf]; omega
    | true =>
     have his := fun W => isScalar_nat c W true hrc
     obtain ⟨t0, t1, t2, t3⟩ := HI.out.tk.cells
     have hlr := HI.out.fr.size
     have HIn : Hid (AaI w lo R T k v1 v2 v3 (.slice A o.length cap) v5 H0 w.heap.size a b X c o' u4 (wr.alloc (.cells #[.int .i32 c] 35))) := Lib.hid (HI.out.below ((Below.refl _ _).alloc (Nat.le_refl _) _))
     have had := addElem_any (wr.alloc (.cells #[.int .i32 c] 35)) lo R T k v1 v2 v3 u4 v5 (.slice (some ⟨wr.heap.size, 0, none⟩) 1 1) a o' [(c : Int)] HIn.out.cu HIn.out.od (own_one wr lo c wr.heap.size rfl (by omega)) (by have := HIn.out.len; omega) hlo (by simp; omega)
     unfold tkV at had
     have HRC := Lib.hid hrc
     have HM := Lib.hid hm
     clear hrc hm
     by_cases h5 : o'.length = 500
     ·have hX3 : Hid (X = .error (3, a.at_)) := Lib.hid (by
       have := HI.out.ans
       rw [HM.out, runAll, if_pos HRC.out, if_pos h5] at this
       exact this)
      have HAD := Lib.hid (had.mono (fun e w' h => h.resolve_right (fun h => h.1 h5)))
      clear had h5
      go_wp2_with (first
       | (go_at_call 63; refine (his _).mono ?_; rintro e w4 ⟨rfl, rfl⟩)
       | (go_at_call 135; refine HAD.out.mono ?_; rintro e w4 ⟨-, rfl, hb4⟩))
      have eX := hX3.out
      subst eX
      exact ⟨rfl, rfl, HIn.out.fr.trans (.of_below hb4)⟩
     ·have hX3 : Hid (X = runAll a (o' ++ [⟨a.t, [(c : Int)], o'.length⟩]) (c + 1) (b.n + 1 - (c + 1))) := Lib.hid (by
       have := HI.out.ans
       rw [HM.out, runAll, if_pos HRC.out, if_neg h5] at this
       exact this)
      have HAD := Lib.hid (had.mono (fun e w' h => h.resolve_left (fun h => h5 h.1)))
      have HL5 : Hid (o'.length + 1 ≤ 500) := Lib.hid (by have := HI.out.len; omega)
      clear had h5
      go_wp2_with (first
       | (go_at_call 63; refine (his _).mono ?_; rintro e w4 ⟨rfl, rfl⟩)
       | (go_at_call 135; refine HAD.out.mono ?_; rintro e w4 ⟨-, rfl, ⟨u5, hc5, ho5, hw5⟩, hf5⟩; (have HI5 := Lib.hid (HIn.out.more hc5 ho5 hw5 hf5 (by simpa using HL5.out) hX3.out)); clear hc5 ho5 hw5 hf5))
      go_roundw
      case rel => exact ⟨c + 1, _, u5, by go_num, by omega, HI5⟩
      case measure => simp only [intOf]; omega
   ·have hX3 : X = .ok o' := by
     have := HI.out.ans
     rw [show b.n + 1 - c = 0 by omega, runAll] at this
     exact this
    have i1 : ¬ (c : Int) ≤ (b.n : Int) := by omega
    have HX3 := Lib.hid hX3
    clear hX3
    go_wp2
    rw [HX3.out]
    go_end0
    exact ⟨u4, rfl, HI.out.cu, HI.out.od, HI.out.own, HI.out.fr⟩
 ·obtain ⟨W2, hW2⟩ : ∃ W2, W2 = (W1.alloc (.cells #[.int .i32 b.n] 35)).alloc (.cells #[.int .i32 a.n] 35) := ⟨_, rfl⟩
  have hb2 : Below W1.heap.size W1 W2 := by rw [hW2]; exact ((Below.refl _ _).alloc (Nat.le_refl _) _).alloc (by simp) _
  have hNew : One W2 W1.heap.size 35 (.int .i32 b.n) ∧ One W2 (W1.heap.size + 1) 35 (.int .i32 a.n) := by
   rw [hW2]
   refine ⟨One.alloc (show One (W1.alloc _) W1.heap.size _ _ from heap_alloc_new W1 _) _, ?_⟩
   have := heap_alloc_new (W1.alloc (.cells #[.int .i32 b.n] 35)) (.cells #[.int .i32 a.n] 35)
   rw [World.size_alloc] at this
   exact this
  have HLH : Hid (One W2 (W1.heap.size + 1) 35 (.int .i32 a.n) ∧ One W2 (W1.heap.size) 35 (.int .i32 b.n)) := Lib.hid ⟨hNew.2, hNew.1⟩
  have HT2 : Hid (LTk W2 w.heap.size a) := Lib.hid ((hb2.block _ HTa.out.lt).trans HTa.out)
  have HC2 := Lib.hid (HC1.out.next hb2)
  have HO2 := Lib.hid (HO1.out.next hb2)
  have HF2 : Hid (Fr w W2 (fun j => j = R ∨ (Value.slice A o.length cap).ownBlock = some j)) := Lib.hid ((Fr.of_below HB1.out).trans (.of_below hb2))
  clear hb2 hNew q1 q2 q3 q4 m1 m2 m3 m4
  try rw [← hW2]
  try change Exit.then _ _ _ _ W2.drew
  clear hW2
  obtain ⟨Wb, hWb⟩ : ∃ Wb, Wb = W1.heap.size + 1 := ⟨_, rfl⟩
  rw [← hWb] at HLH ⊢
  clear hWb
  obtain ⟨Wa, hWa⟩ : ∃ Wa, Wa = W1.heap.size := ⟨_, rfl⟩
  rw [← hWa] at HLH ⊢
  clear hWa
  obtain ⟨L0, hL0⟩ : ∃ L0, L0 = Wb := ⟨_, rfl⟩
  obtain ⟨H0, hH0⟩ : ∃ H0, H0 = Wa := ⟨_, rfl⟩
  rw [← hL0, ← hH0] at HLH ⊢
  clear hL0 hH0
  obtain ⟨vs, h1, h2, h3⟩ := HO2.out
  have hfind := hasAmong_any W2.drew W2.heap.size A o.length cap (ordR o vs) L0 H0 (fun j => match o[j]? with | some e => amB e.cells a.n b.n | none => false) (fun _ w' => Below W2.heap.size W2 w') (fun _ w' => Below W2.heap.size W2 w') (by unfold maxLen; omega) (below_drew (Below.refl _ _))
   (fun k w' hw => (SI.of_own h2 (ordR_len h1) ordR_each).on hw (Nat.le_refl _))
   (fun k x y z w' hx hw => by
    obtain ⟨e, u, he, hvx, hxe⟩ := ordR_at hx
    simp at hxe
    obtain ⟨rfl, rfl, rfl⟩ := hxe
    have hc := h3 k e y he hvx
    obtain ⟨Ax, cx, rfl⟩ := cells_form hc
    have hxs : RI .i32 W2 W2.heap.size Ax e.cells.length e.cells := RI.of_own hc
    have hl := hw.size
    refine (addAll1_any w' (str e.name) e.same Ax e.cells.length cx L0 H0 e.cells a.n b.n ((hxs.keep fun p hp => hw.cell hp).more hl) ((hw.block _ HLH.out.1.lt).trans HLH.out.1) ((hw.block _ HLH.out.2.lt).trans HLH.out.2)).mono ?_
    rintro e2 w2 ⟨rfl, hb2⟩
    have hw2 : Below W2.heap.size W2 w2 := hw.trans ⟨hb2.os, hb2.tape, hb2.output, hb2.size, fun i hi => hb2.block i (by omega)⟩
    simp only [he]
    exact ⟨rfl, fun _ => hw2, fun _ => hw2⟩)
  have q5 : W2.drew.cell? ⟨R, 5, none⟩ = some (.slice A o.length cap) := HC2.out.drew.more.2.2.2.1
  have HFI := Lib.hid hfind
  clear h1 h2 h3 hfind
  go_wp2_with fail
  refine HFI.out.mono ?_
  rintro e w3 (⟨j, hj, hq, -, rfl, hb3⟩ | ⟨hq, rfl, hb3⟩)
  ·have hX2 : Hid (X = .error (32, a.at_)) := Lib.hid (by have := HX.out; rw [if_pos (among_any.2 ⟨j, hj, hq⟩)] at this; exact this)
   have HT3 : Hid (LTk w3 w.heap.size a) := Lib.hid ((hb3.block _ HT2.out.lt).trans HT2.out)
   have HF3 := Lib.hid (HF2.out.trans (.of_below hb3))
   have hrf := fun W => refuse_any 32 a W
   unfold tkV at hrf
   obtain ⟨t0, t1, t2, t3⟩ := HT3.out.cells
   clear hb3 hq hj
   go_wp2_with fail
   refine (hrf _).mono ?_
   rintro e w4 ⟨rfl, hb4⟩
   have eX := hX2.out
   subst eX
   exact ⟨rfl, rfl, HF3.out.trans (.of_below hb4)⟩
  have hX2 : Hid (X = runAll a o a.n (b.n + 1 - a.n)) := Lib.hid (by
   have := HX.out
   rw [if_neg (fun h => by
    obtain ⟨j, hj, hb⟩ := among_any.1 h
    exact absurd (hb.symm.trans (hq j hj)) (by simp))] at this
   exact this)
  have HI3 : Hid (AaI w lo R T k v1 v2 v3 (.slice A o.length cap) v5 H0 w.heap.size a b X a.n o (.slice A o.length cap) w3) := Lib.hid ⟨HC2.out.next hb3, HO2.out.next hb3, hn, fun g e => .inl e, (hb3.block _ HLH.out.2.lt).trans HLH.out.2, (hb3.block _ HT2.out.lt).trans HT2.out, HF2.out.trans (.of_below hb3), hX2.out⟩
  have qL : w3.cell? ⟨L0, 0, none⟩ = some (.int .i32 a.n) := ((show One w3 L0 _ _ from (hb3.block _ HLH.out.1.lt).trans HLH.out.1)).cell
  clear hb3 hq HFI
  go_wp2
  go_loopw [8] (fun iv wr => ∃ (c : Nat) (o' : List Elm) (u4 : Value), iv = .int .i32 c ∧ c ≤ 1114112 ∧ Hid (AaI w lo R T k v1 v2 v3 (.slice A o.length cap) v5 H0 w.heap.size a b X c o' u4 wr)) (fun iv _ => b.n + 1 - (intOf iv).toNat)
  case atStart => exact ⟨a.n, o, _, rfl, by omega, HI3⟩
  case round =>
   obtain ⟨c, o', u4, rfl, hc9, HI⟩ := hrel
   have qH := HI.out.hi.cell
   by_cases hlt : c ≤ b.n
   ·have i1 : (c : Int) ≤ (b.n : Int) := by omega
    have i2 : IntKind.i32.wrap ((c : Int) + 1) = ((c + 1 : Nat) : Int) := by
     rw [IntKind.wrap_i32]
     omega
    have hm : b.n + 1 - c = (b.n + 1 - (c + 1)) + 1 := by omega
    cases hrc : rightN c with
    | false =>
     have his := fun W => isScalar_nat c W false hrc
     have HI4 : Hid (AaI w lo R T k v1 v2 v3 (.slice A o.length cap) v5 H0 w.heap.size a b X (c + 1) o' u4 wr) := Lib.hid ⟨HI.out.cu, HI.out.od, HI.out.len, HI.out.own, HI.out.hi, HI.out.tk, HI.out.fr, by
      have := HI.out.ans
      rw [hm, runAll, if_neg (by rw [hrc]; simp)] at this
      exact this⟩
     clear hrc hm
     go_wp2_with (go_at_call 63; refine (his _).mono ?_; rintro e w4 ⟨rfl, rfl⟩)
     go_roundw
     case rel => exact ⟨c + 1, o', u4, by go_num, by omega, HI4⟩
     case measure => simp only [intOf]; omega
    | true =>
     have his := fun W => isScalar_nat c W true hrc
     obtain ⟨t0, t1, t2, t3⟩ := HI.out.tk.cells
     have hlr := HI.out.fr.size
     have HIn : Hid (AaI w lo R T k v1 v2 v3 (.slice A o.length cap) v5 H0 w.heap.size a b X c o' u4 (wr.alloc (.cells #[.int .i32 c] 35))) := Lib.hid (HI.out.below ((Below.refl _ _).alloc (Nat.le_refl _) _))
     have had := addElem_any (wr.alloc (.cells #[.int .i32 c] 35)) lo R T k v1 v2 v3 u4 v5 (.slice (some ⟨wr.heap.size, 0, none⟩) 1 1) a o' [(c : Int)] HIn.out.cu HIn.out.od (own_one wr lo c wr.heap.size rfl (by omega)) (by have := HIn.out.len; omega) hlo (by simp; omega)
     unfold tkV at had
     have HRC := Lib.hid hrc
     have HM := Lib.hid hm
     clear hrc hm
     by_cases h5 : o'.length = 500
     ·have hX3 : Hid (X = .error (3, a.at_)) := Lib.hid (by
       have := HI.out.ans
       rw [HM.out, runAll, if_pos HRC.out, if_pos h5] at this
       exact this)
      have HAD := Lib.hid (had.mono (fun e w' h => h.resolve_right (fun h => h.1 h5)))
      clear had h5
      go_wp2_with (first
       | (go_at_call 63; refine (his _).mono ?_; rintro e w4 ⟨rfl, rfl⟩)
       | (go_at_call 135; refine HAD.out.mono ?_; rintro e w4 ⟨-, rfl, hb4⟩))
      have eX := hX3.out
      subst eX
      exact ⟨rfl, rfl, HIn.out.fr.trans (.of_below hb4)⟩
     ·have hX3 : Hid (X = runAll a (o' ++ [⟨a.t, [(c : Int)], o'.length⟩]) (c + 1) (b.n + 1 - (c + 1))) := Lib.hid (by
       have := HI.out.ans
       rw [HM.out, runAll, if_pos HRC.out, if_neg h5] at this
       exact this)
      have HAD := Lib.hid (had.mono (fun e w' h => h.resolve_left (fun h => h5 h.1)))
      have HL5 : Hid (o'.length + 1 ≤ 500) := Lib.hid (by have := HI.out.len; omega)
      clear had h5
      go_wp2_with (first
       | (go_at_call 63; refine (his _).mono ?_; rintro e w4 ⟨rfl, rfl⟩)
       | (go_at_call 135; refine HAD.out.mono ?_; rintro e w4 ⟨-, rfl, ⟨u5, hc5, ho5, hw5⟩, hf5⟩; (have HI5 := Lib.hid (HIn.out.more hc5 ho5 hw5 hf5 (by simpa using HL5.out) hX3.out)); clear hc5 ho5 hw5 hf5))
      go_roundw
      case rel => exact ⟨c + 1, _, u5, by go_num, by omega, HI5⟩
      case measure => simp only [intOf]; omega
   ·have hX3 : X = .ok o' := by
     have := HI.out.ans
     rw [show b.n + 1 - c = 0 by omega, runAll] at this
     exact this
    have i1 : ¬ (c : Int) ≤ (b.n : Int) := by omega
    have HX3 := Lib.hid hX3
    clear hX3
    go_wp2
    rw [HX3.out]
    go_end0
    exact ⟨u4, rfl, HI.out.cu, HI.out.od, HI.out.own, HI.out.fr⟩
end Go.Proofs.YthaibekbefndlaaGreatDoor.C
