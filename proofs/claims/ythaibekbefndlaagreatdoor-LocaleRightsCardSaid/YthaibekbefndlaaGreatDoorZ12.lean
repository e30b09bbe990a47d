/-
  Joined: LcE, LcF, LcH, LdN. Each with what its own head says.
-/
import Derived.Test.YthaibekbefndlaaGreatDoorZ10

namespace Go.Proofs.YthaibekbefndlaaGreatDoor.C
open Go.RowKit
theorem kinds_at {w : World} {g : Nat} (hg : w.heap.size = g) (k : Int) (t : TypeId) : RI .u8 (w.alloc (.cells #[.int .u8 k] t)) (g + 1) (some ⟨g, 0, none⟩) 1 [k] := by subst hg; exact kinds_one w k t
theorem kinds_at2 {w : World} {g : Nat} (hg : w.heap.size = g) (k l : Int) (t : TypeId) : RI .u8 (w.alloc (.cells #[.int .u8 k, .int .u8 l] t)) (g + 1) (some ⟨g, 0, none⟩) 2 [k, l] := by subst hg; exact kinds_two w k l t
theorem Moved.cellAt {w w' : World} {R b : Nat} (h : Moved w w' R) (hb : b < w.heap.size) (hne : b ≠ R) (i : Nat) : w'.cell? ⟨b, i, none⟩ = w.cell? ⟨b, i, none⟩ := World.cell?_of_block (h.block b hb (fun e => by injection e with e; exact hne e))
def LTk (w : World) (b : Nat) (x : Tok) : Prop := w.heap[b]? = some (.cells #[.int .u8 x.k, .string (str x.t), .int .i64 x.n, .int .i64 x.at_] 92 (0, 0))
theorem LTk.cells {w : World} {b : Nat} {x : Tok} (h : LTk w b x) : w.cell? ⟨b, 0, none⟩ = some (.int .u8 x.k) ∧ w.cell? ⟨b, 1, none⟩ = some (.string (str x.t)) ∧ w.cell? ⟨b, 2, none⟩ = some (.int .i64 x.n) ∧ w.cell? ⟨b, 3, none⟩ = some (.int .i64 x.at_) := by
 simp [World.cell?, show w.heap[b]? = _ from h]
theorem LTk.lt {w : World} {b : Nat} {x : Tok} (h : LTk w b x) : b < w.heap.size := (Array.getElem?_eq_some_iff.1 h).1
theorem LTk.moved {w w' : World} {R b : Nat} {x : Tok} (h : LTk w b x) (hm : Moved w w' R) (hne : b ≠ R) : LTk w' b x := (hm.block b h.lt (fun e => by injection e with e; exact hne e)).trans h
theorem LTk.alloc {w : World} {b : Nat} {x : Tok} (h : LTk w b x) (o : Obj) : LTk (w.alloc o) b x := (Below.heap_alloc w o b h.lt).trans h
theorem LTk.drew {w : World} {b : Nat} {x : Tok} (h : LTk w b x) : LTk w.drew b x := h
theorem LTk.new (w : World) (x : Tok) : LTk (w.alloc (.cells #[.int .u8 x.k, .string (str x.t), .int .i64 x.n, .int .i64 x.at_] 92)) w.heap.size x := heap_alloc_new w _
theorem LTk.frozen {w : World} {b : Nat} {x : Tok} (h : LTk w b x) (i : Nat) : w.frozen? ⟨b, i, none⟩ = false := by simp [World.frozen?, show w.heap[b]? = _ from h]
theorem Moved.fresh {w w' : World} {R : Nat} (h : Moved w w' R) {p : Addr} (hp : w.heap.size ≤ p.block) (u : Value) : Moved w (w'.setCell p u) R :=
 ⟨h.os, h.tape, h.output, by simpa [World.setCell] using h.size, fun j hj hne => (Below.heap_setCell w' p u j (by omega)).trans (h.block j hj hne)⟩
def zTk : Tok := ⟨0, [], 0, 0⟩
section
variable (w : World) (R : Nat) (T : TV) (k : Nat) (v1 v2 v3 v4 v5 : Value) (x : Tok) (r : List Tok)
theorem take1_yes (g : Nat) (hg : w.heap.size = g) (kd : Nat) (h : CU w R T k v1 v2 v3 v4 v5) (hr : T.ts.drop k = x :: r) (hk : x.k = kd) :
  Calls Tryz.prog 37 #[.pointer (some ⟨R, 0, none⟩), .slice (some ⟨g, 0, none⟩) 1 1] (w.alloc (.cells #[.int .u8 kd] 5)) fun e w' => e = .returned (tkV x) ∧ CU w' R T (k + 1) v1 v2 v3 v4 v5 ∧ Moved w w' R :=
 (take_yes _ R T k v1 v2 v3 v4 v5 x r _ _ 1 1 [(kd : Int)] (h.alloc _) hr (kinds_at hg kd 5) (by omega) (by simp; omega) (by subst hk; simp [inKs])).mono fun _ _ ⟨he, hc, hm⟩ => ⟨he, hc, ((Moved.refl w R).alloc _).trans hm⟩
theorem take1_no (g : Nat) (hg : w.heap.size = g) (kd : Nat) (h : CU w R T k v1 v2 v3 v4 v5) (hr : T.ts.drop k = x :: r) (hk : ¬ x.k = kd) :
  Calls Tryz.prog 37 #[.pointer (some ⟨R, 0, none⟩), .slice (some ⟨g, 0, none⟩) 1 1] (w.alloc (.cells #[.int .u8 kd] 5)) fun e w' => e = .panicked (faultV 30 x.at_) ∧ Moved w w' R :=
 (take_no _ R T k v1 v2 v3 v4 v5 x r _ _ 1 1 [(kd : Int)] (h.alloc _) hr (kinds_at hg kd 5) (by omega) (by simp; omega) (by simp [inKs]; omega)).mono fun _ _ ⟨he, hb⟩ => ⟨he, ((Moved.refl w R).alloc _).trans (.of_below hb)⟩
theorem take2_yes (g : Nat) (hg : w.heap.size = g) (kd kd' : Nat) (h : CU w R T k v1 v2 v3 v4 v5) (hr : T.ts.drop k = x :: r) (hk : x.k = kd ∨ x.k = kd') :
  Calls Tryz.prog 37 #[.pointer (some ⟨R, 0, none⟩), .slice (some ⟨g, 0, none⟩) 2 2] (w.alloc (.cells #[.int .u8 kd, .int .u8 kd'] 5)) fun e w' => e = .returned (tkV x) ∧ CU w' R T (k + 1) v1 v2 v3 v4 v5 ∧ Moved w w' R :=
 (take_yes _ R T k v1 v2 v3 v4 v5 x r _ _ 2 2 [(kd : Int), (kd' : Int)] (h.alloc _) hr (kinds_at2 hg kd kd' 5) (by omega) (by simp; omega) (by simp [inKs]; omega)).mono fun _ _ ⟨he, hc, hm⟩ => ⟨he, hc, ((Moved.refl w R).alloc _).trans hm⟩
set_option maxRecDepth 100000 in
set_option maxHeartbeats 1000000 in
theorem notBelow_yes (a : Tok) (h : CU w R T k v1 v2 v3 v4 v5) (hr : T.ts.drop k = x :: r) (hk : x.k = 3) (hn : a.n ≤ x.n) :
  Calls Tryz.prog 132 #[.pointer (some ⟨R, 0, none⟩), tkV a] w fun e w' => e = .returned (tkV x) ∧ CU w' R T (k + 1) v1 v2 v3 v4 v5 ∧ Moved w w' R := by
 have hta := fun (W : World) (g : Nat) (hg : W.heap.size = g) (hc : CU W R T k v1 v2 v3 v4 v5) => take1_yes W R T k v1 v2 v3 v4 v5 x r g hg 3 hc hr hk
 have HTA := Lib.hid hta
 have H := Lib.hid h
 clear h hr hta hk
 unfold tkV
 go_enter Tryz.func132, Tryz.ntmps132
 go_wp2_with fail
 refine (HTA.out _ _ (by simp) ((H.out.alloc _).alloc _)).mono ?_
 rintro e w1 ⟨rfl, hc, hm⟩
 have hlt := H.out.lt
 have hsz : w.heap.size + 2 ≤ w1.heap.size := by have := hm.size; simp at this; omega
 have hsz1 : w.heap.size < w1.heap.size := by omega
 have hsz2 : w.heap.size + 1 < w1.heap.size := by omega
 have ta := ((LTk.new w a).alloc (.cells #[.int .u8 0, .string ⟨#[]⟩, .int .i64 0, .int .i64 0] 92)).moved hm (by omega)
 have tz : LTk w1 (w.heap.size + 1) zTk := (show LTk _ (w.heap.size + 1) zTk from by have := LTk.new (w.alloc (.cells #[.int .u8 a.k, .string (str a.t), .int .i64 a.n, .int .i64 a.at_] 92)) zTk; rw [World.size_alloc] at this; exact this).moved hm (by omega)
 obtain ⟨-, -, a2, -⟩ := ta.cells
 obtain ⟨z0, z1, z2, z3⟩ := tz.cells
 have f0 := tz.frozen 0
 have f1 := tz.frozen 1
 have f2 := tz.frozen 2
 have f3 := tz.frozen 3
 have HC := Lib.hid hc
 have HM := Lib.hid ((((Moved.refl w R).alloc _).alloc _).trans hm)
 clear hc hm ta tz
 unfold tkV
 go_wp2
 refine bodyPost_ret (v := tkV x) (by simp [results, Tryz.results132, go_sem, tkV, z0, z1, z2, z3, hsz2]) rfl ⟨rfl, ?_, ?_⟩
 ·exact ((((HC.out.far (p := ⟨w.heap.size + 1, 0, none⟩) (by show R < w.heap.size + 1; omega) _).far (p := ⟨w.heap.size + 1, 1, none⟩) (by show R < w.heap.size + 1; omega) _).far (p := ⟨w.heap.size + 1, 2, none⟩) (by show R < w.heap.size + 1; omega) _).far (p := ⟨w.heap.size + 1, 3, none⟩) (by show R < w.heap.size + 1; omega) _).alloc _
 ·exact ((((HM.out.fresh (p := ⟨w.heap.size + 1, 0, none⟩) (by show w.heap.size ≤ w.heap.size + 1; omega) _).fresh (p := ⟨w.heap.size + 1, 1, none⟩) (by show w.heap.size ≤ w.heap.size + 1; omega) _).fresh (p := ⟨w.heap.size + 1, 2, none⟩) (by show w.heap.size ≤ w.heap.size + 1; omega) _).fresh (p := ⟨w.heap.size + 1, 3, none⟩) (by show w.heap.size ≤ w.heap.size + 1; omega) _).alloc _
set_option maxRecDepth 100000 in
set_option maxHeartbeats 1000000 in
theorem notBelow_kind (a : Tok) (h : CU w R T k v1 v2 v3 v4 v5) (hr : T.ts.drop k = x :: r) (hk : ¬ x.k = 3) :
  Calls Tryz.prog 132 #[.pointer (some ⟨R, 0, none⟩), tkV a] w fun e w' => e = .panicked (faultV 30 x.at_) ∧ Moved w w' R := by
 have hta := fun (W : World) (g : Nat) (hg : W.heap.size = g) (hc : CU W R T k v1 v2 v3 v4 v5) => take1_no W R T k v1 v2 v3 v4 v5 x r g hg 3 hc hr hk
 have HTA := Lib.hid hta
 have H := Lib.hid h
 clear h hr hta hk
 unfold tkV
 go_enter Tryz.func132, Tryz.ntmps132
 go_wp2_with fail
 refine (HTA.out _ _ (by simp) ((H.out.alloc _).alloc _)).mono ?_
 rintro e w1 ⟨rfl, hm⟩
 exact ⟨rfl, rfl, (((Moved.refl w R).alloc _).alloc _).trans hm⟩
set_option maxRecDepth 100000 in
set_option maxHeartbeats 1000000 in
theorem notBelow_less (a : Tok) (h : CU w R T k v1 v2 v3 v4 v5) (hr : T.ts.drop k = x :: r) (hk : x.k = 3) (hn : x.n < a.n) :
  Calls Tryz.prog 132 #[.pointer (some ⟨R, 0, none⟩), tkV a] w fun e w' => e = .panicked (faultV 30 x.at_) ∧ Moved w w' R := by
 have hta := fun (W : World) (g : Nat) (hg : W.heap.size = g) (hc : CU W R T k v1 v2 v3 v4 v5) => take1_yes W R T k v1 v2 v3 v4 v5 x r g hg 3 hc hr hk
 have HTA := Lib.hid hta
 have H := Lib.hid h
 clear h hr hta hk
 unfold tkV
 go_enter Tryz.func132, Tryz.ntmps132
 go_wp2_with fail
 refine (HTA.out _ _ (by simp) ((H.out.alloc _).alloc _)).mono ?_
 rintro e w1 ⟨rfl, hc, hm⟩
 have hlt := H.out.lt
 have hsz : w.heap.size + 2 ≤ w1.heap.size := by have := hm.size; simp at this; omega
 have hsz1 : w.heap.size < w1.heap.size := by omega
 have ta := ((LTk.new w a).alloc (.cells #[.int .u8 0, .string ⟨#[]⟩, .int .i64 0, .int .i64 0] 92)).moved hm (by omega)
 obtain ⟨-, -, a2, -⟩ := ta.cells
 have HM := Lib.hid ((((Moved.refl w R).alloc _).alloc _).trans hm)
 clear hc hm ta
 unfold tkV
 go_wp2_with fail
 refine (refuse_any 30 x _).mono ?_
 rintro e w2 ⟨rfl, hb2⟩
 exact ⟨rfl, rfl, (HM.out.alloc _).trans (.of_below hb2)⟩
end
end Go.Proofs.YthaibekbefndlaaGreatDoor.C

namespace Go.Proofs.YthaibekbefndlaaGreatDoor.C
open Go.RowKit

def Ended (ts : List Tok) : Prop := ∃ p x, ts = p ++ [x] ∧ x.k = 6
theorem Ended.cons {x : Tok} {r : List Tok} (h : Ended (x :: r)) (hk : x.k ≠ 6) : Ended r := by
  obtain ⟨p, y, he, hy⟩ := h
  cases p with
  | nil =>
    simp at he
    exact absurd (he.1 ▸ hy) hk
  | cons a p =>
    simp at he
    exact ⟨p, y, he.2, hy⟩
theorem Ended.some_ {ts : List Tok} (h : Ended ts) : ∃ x r, ts = x :: r := by
  obtain ⟨p, y, he, _⟩ := h
  cases p with
  | nil => exact ⟨y, [], he⟩
  | cons a p => exact ⟨a, p ++ [y], he⟩
def NumOk (T : TV) : Prop := ∀ t ∈ T.ts, t.n ≤ 1114111
theorem NumOk.at_ {T : TV} (h : NumOk T) {k : Nat} {x : Tok} {r : List Tok} (hr : T.ts.drop k = x :: r) : x.n ≤ 1114111 := h x (List.mem_of_mem_drop (i := k) (by rw [hr]; simp))

def ReTold {α : Type} (w : World) (R : Nat) (T : TV) (v1 v2 v3 v4 v5 : Value) (val : α → Value) : Re α → Ending → World → Prop
  | .ok (a, r), e, w' => ∃ k, e = .returned (val a) ∧ CU w' R T k v1 v2 v3 v4 v5 ∧ T.ts.drop k = r ∧ Moved w w' R
  | .error er, e, w' => e = .panicked (faultV er.1 er.2) ∧ Moved w w' R
def scalL (ts : List Tok) : Re (Int × Int) :=
  match takeK [3] ts with
  | .error e => .error e
  | .ok (a, r) => if isSign sThru r then
      match notBelow a (r.drop 1) with
      | .error e => .error e
      | .ok (b, r') => .ok (((a.n : Int), (b.n : Int)), r')
    else .ok (((a.n : Int), (a.n : Int)), r)
theorem rangeL_scal (rs : List (Int × Int)) (ts : List Tok) : rangeL rs ts = match scalL ts with
    | .error e => .error e
    | .ok (x, r) => .ok (rs ++ [x], r) := by
  unfold rangeL scalL
  rcases takeK [3] ts with e | ⟨a, r⟩
  · rfl
  · simp only
    by_cases h : isSign sThru r = true
    · rw [if_pos h, if_pos h]
      rcases notBelow a (r.drop 1) with e | ⟨b, r'⟩ <;> rfl
    · rw [if_neg h, if_neg h]
def pairV (x : Int × Int) : Value := .agg #[.int .i32 x.1, .int .i32 x.2]
theorem drop_next {T : TV} {k : Nat} {x : Tok} {r : List Tok} (hr : T.ts.drop k = x :: r) : T.ts.drop (k + 1) = r := by
  rw [← List.drop_drop, hr]; rfl
def Two (w : World) (b : Nat) (t : TypeId) (u v : Value) : Prop := w.heap[b]? = some (.cells #[u, v] t (0, 0))
theorem Two.cells {w : World} {b : Nat} {t : TypeId} {u v : Value} (h : Two w b t u v) : w.cell? ⟨b, 0, none⟩ = some u ∧ w.cell? ⟨b, 1, none⟩ = some v := by simp [World.cell?, show w.heap[b]? = _ from h]
theorem Two.frozen {w : World} {b : Nat} {t : TypeId} {u v : Value} (h : Two w b t u v) (i : Nat) : w.frozen? ⟨b, i, none⟩ = false := by simp [World.frozen?, show w.heap[b]? = _ from h]
theorem Two.lt {w : World} {b : Nat} {t : TypeId} {u v : Value} (h : Two w b t u v) : b < w.heap.size := (Array.getElem?_eq_some_iff.1 h).1
theorem Two.moved {w w' : World} {R b : Nat} {t : TypeId} {u v : Value} (h : Two w b t u v) (hm : Moved w w' R) (hne : b ≠ R) : Two w' b t u v := (hm.block b h.lt (fun e => by injection e with e; exact hne e)).trans h
theorem Two.alloc {w : World} {b : Nat} {t : TypeId} {u v : Value} (h : Two w b t u v) (o : Obj) : Two (w.alloc o) b t u v := (Below.heap_alloc w o b h.lt).trans h
theorem Two.drew {w : World} {b : Nat} {t : TypeId} {u v : Value} (h : Two w b t u v) : Two w.drew b t u v := h
theorem Two.new (w : World) (t : TypeId) (u v : Value) : Two (w.alloc (.cells #[u, v] t)) w.heap.size t u v := heap_alloc_new w _
theorem LTk.at_ {w : World} {g : Nat} (hg : w.heap.size = g) (x : Tok) : LTk (w.alloc (.cells #[.int .u8 x.k, .string (str x.t), .int .i64 x.n, .int .i64 x.at_] 92)) g x := by subst hg; exact LTk.new w x

theorem CU.far2 {w : World} {R k b : Nat} {T : TV} {v1 v2 v3 v4 v5 : Value} (h : CU w R T k v1 v2 v3 v4 v5) (hb : R < b) (u v : Value) : CU ((w.setCell ⟨b, 0, none⟩ u).setCell ⟨b, 1, none⟩ v) R T k v1 v2 v3 v4 v5 :=
  (h.far (p := ⟨b, 0, none⟩) hb u).far (p := ⟨b, 1, none⟩) hb v
theorem Moved.fresh2 {w w' : World} {R b : Nat} (h : Moved w w' R) (hb : w.heap.size ≤ b) (u v : Value) : Moved w ((w'.setCell ⟨b, 0, none⟩ u).setCell ⟨b, 1, none⟩ v) R :=
  (h.fresh (p := ⟨b, 0, none⟩) hb u).fresh (p := ⟨b, 1, none⟩) hb v
theorem CU.far4 {w : World} {R k b : Nat} {T : TV} {v1 v2 v3 v4 v5 : Value} (h : CU w R T k v1 v2 v3 v4 v5) (hb : R < b) (u v x y : Value) : CU ((((w.setCell ⟨b, 0, none⟩ u).setCell ⟨b, 1, none⟩ v).setCell ⟨b, 2, none⟩ x).setCell ⟨b, 3, none⟩ y) R T k v1 v2 v3 v4 v5 :=
  ((h.far2 hb u v).far (p := ⟨b, 2, none⟩) hb x).far (p := ⟨b, 3, none⟩) hb y
theorem Moved.fresh4 {w w' : World} {R b : Nat} (h : Moved w w' R) (hb : w.heap.size ≤ b) (u v x y : Value) : Moved w ((((w'.setCell ⟨b, 0, none⟩ u).setCell ⟨b, 1, none⟩ v).setCell ⟨b, 2, none⟩ x).setCell ⟨b, 3, none⟩ y) R :=
  ((h.fresh2 hb u v).fresh (p := ⟨b, 2, none⟩) hb x).fresh (p := ⟨b, 3, none⟩) hb y
section
variable (w : World) (R : Nat) (T : TV) (k : Nat) (v1 v2 v3 v4 v5 : Value)
set_option maxRecDepth 100000 in
set_option maxHeartbeats 2000000 in
theorem scalars_any (h : CU w R T k v1 v2 v3 v4 v5) (hN : NumOk T) (hE : Ended (T.ts.drop k)) :
    Calls Tryz.prog 124 #[.pointer (some ⟨R, 0, none⟩)] w (ReTold w R T v1 v2 v3 v4 v5 pairV (scalL (T.ts.drop k))) := by
  obtain ⟨x, r, hr⟩ := hE.some_
  have hlt := h.lt
  have hM0 : Moved w (w.alloc (.cells #[.int .i32 0, .int .i32 0] 51)) R := (Moved.refl w R).alloc _
  by_cases hk : x.k = 3
  · have hx := hN.at_ hr
    have hta := take1_yes _ R T k v1 v2 v3 v4 v5 x r _ rfl 3 (h.alloc (.cells #[.int .i32 0, .int .i32 0] 51)) hr hk
    rw [World.size_alloc] at hta
    have hr1 := drop_next hr
    rw [hr] at hE
    obtain ⟨y, r1, hy⟩ := (hE.cons (by omega)).some_
    subst hy
    have hm : scalL (T.ts.drop k) = if isSign sThru (y :: r1) then
      match notBelow x r1 with
      | .error e => .error e
      | .ok (b, r') => .ok (((x.n : Int), (b.n : Int)), r')
      else .ok (((x.n : Int), (x.n : Int)), y :: r1) := by
      rw [hr]
      unfold scalL
      simp only [takeK]
      rw [if_pos (by simpa using hk)]
      rfl
    rw [hm]
    have n0 : (0 : Int) ≤ (x.n : Int) := by omega
    have n1 : (x.n : Int) ≤ 1114111 := by omega
    have HK := Lib.hid hk
    clear hk
    cases hs : isSign sThru (y :: r1) with
    | false =>
      have hsk := fun W hc => skips_no W R T (k + 1) v1 v2 v3 v4 v5 y r1 sThru hc hr1 hs
      have HSK := Lib.hid hsk
      have HR1 := Lib.hid hr1
      have HM0 := Lib.hid hM0
      rw [if_neg (by simp)]
      clear h hr hE hr1 hM0 hs hsk hm
      go_enter Tryz.func124, Tryz.ntmps124
      go_wp2_with fail
      refine hta.mono ?_
      rintro e w1 ⟨rfl, hc1, hm1⟩
      have z := (Two.new w 51 (.int .i32 0) (.int .i32 0)).moved hm1 (by omega)
      have hs1 := hm1.size
      rw [World.size_alloc] at hs1
      obtain ⟨W2, hW2⟩ : ∃ W2, W2 = (w1.alloc (.cells #[.int .u8 x.k, .string (str x.t), .int .i64 x.n, .int .i64 x.at_] 92)).alloc (.cells #[.int .u8 x.k, .string (str x.t), .int .i64 x.n, .int .i64 x.at_] 92) := ⟨_, rfl⟩
      have l1 : LTk W2 w1.heap.size x := by rw [hW2]; exact (LTk.new w1 x).alloc _
      have l2 : LTk W2 (w1.heap.size + 1) x := by rw [hW2]; exact LTk.at_ (by simp) x
      have hz2 : Two W2 w.heap.size 51 (.int .i32 0) (.int .i32 0) := by rw [hW2]; exact (z.alloc _).alloc _
      have hs2 : W2.heap.size = w1.heap.size + 2 := by rw [hW2]; simp
      have HC1 : Hid (CU W2 R T (k + 1) v1 v2 v3 v4 v5) := Lib.hid (by rw [hW2]; exact (hc1.alloc _).alloc _)
      have HM1 : Hid (Moved w W2 R) := Lib.hid (by rw [hW2]; exact ((HM0.out.trans hm1).alloc _).alloc _)
      have hb1 : w.heap.size ≠ R := by omega
      have hb2 : w1.heap.size ≠ R := by omega
      have hb3 : w1.heap.size + 1 ≠ R := by omega
      have hb4 : w.heap.size < w1.heap.size := by omega
      clear hc1 hm1 hta z
      unfold tkV
      go_wp2_with fail
      rw [← hW2]
      clear hW2
      refine (HSK.out _ HC1.out).mono ?_
      rintro e w3 ⟨rfl, hb⟩
      have hs3 := hb.size
      obtain ⟨-, -, a2, -⟩ := (l1.moved (.of_below (R := R) hb) hb2).cells
      obtain ⟨-, -, b2, -⟩ := (l2.moved (.of_below (R := R) hb) hb3).cells
      have hz3 := hz2.moved (.of_below (R := R) hb) hb1
      obtain ⟨z0, z1⟩ := hz3.cells
      have f0 := hz3.frozen 0
      have f1 := hz3.frozen 1
      have HC3 := Lib.hid (HC1.out.next hb)
      have HM3 := Lib.hid (HM1.out.trans (.of_below hb))
      have h3 : w.heap.size < w3.heap.size := by omega
      clear hb hz3 l1 l2 hz2 hs2 hs3
      go_wp2
      refine bodyPost_ret (v := pairV (x.n, x.n)) (by simp [results, Tryz.results124, go_sem, pairV, z0, z1]) rfl ⟨k + 1, rfl, ?_, HR1.out, ?_⟩
      · exact HC3.out.far2 (by show R < w.heap.size; omega) _ _
      · exact HM3.out.fresh2 (Nat.le_refl _) _ _
    | true =>
      have hy2 : y.k = 2 := by have : y.k = 2 ∧ y.t = sThru := by simpa [isSign] using hs
                               exact this.1
      have hsk := fun W hc => skips_yes W R T (k + 1) v1 v2 v3 v4 v5 y r1 sThru hc hr1 hs
      have HSK := Lib.hid hsk
      have hr2 := drop_next hr1
      obtain ⟨z, r2, hz⟩ := ((hE.cons (by have := HK.out; omega)).cons (by omega)).some_
      subst hz
      have hzn := hN.at_ hr2
      have HR3 := Lib.hid (drop_next hr2)
      have HM0 := Lib.hid hM0
      rw [if_pos rfl]
      by_cases hzk : z.k = 3
      · by_cases hlz : z.n < x.n
        · have hnb := fun W hc => notBelow_less W R T (k + 1 + 1) v1 v2 v3 v4 v5 z r2 x hc hr2 hzk hlz
          have HNB := Lib.hid hnb
          have hmm : notBelow x (z :: r2) = .error (30, z.at_) := by
            unfold notBelow
            simp only [takeK]
            rw [if_pos (by simpa using hzk)]
            simp only
            rw [if_pos hlz]
          rw [hmm]
          clear h hr hE hr1 hM0 hs hsk hm hr2 hnb hmm hzk hy2 hlz
          go_enter Tryz.func124, Tryz.ntmps124
          go_wp2_with fail
          refine hta.mono ?_
          rintro e w1 ⟨rfl, hc1, hm1⟩
          have z := (Two.new w 51 (.int .i32 0) (.int .i32 0)).moved hm1 (by omega)
          have hs1 := hm1.size
          rw [World.size_alloc] at hs1
          obtain ⟨W2, hW2⟩ : ∃ W2, W2 = (w1.alloc (.cells #[.int .u8 x.k, .string (str x.t), .int .i64 x.n, .int .i64 x.at_] 92)).alloc (.cells #[.int .u8 x.k, .string (str x.t), .int .i64 x.n, .int .i64 x.at_] 92) := ⟨_, rfl⟩
          have l1 : LTk W2 w1.heap.size x := by rw [hW2]; exact (LTk.new w1 x).alloc _
          have l2 : LTk W2 (w1.heap.size + 1) x := by rw [hW2]; exact LTk.at_ (by simp) x
          have hz2 : Two W2 w.heap.size 51 (.int .i32 0) (.int .i32 0) := by rw [hW2]; exact (z.alloc _).alloc _
          have hs2 : W2.heap.size = w1.heap.size + 2 := by rw [hW2]; simp
          have HC1 : Hid (CU W2 R T (k + 1) v1 v2 v3 v4 v5) := Lib.hid (by rw [hW2]; exact (hc1.alloc _).alloc _)
          have HM1 : Hid (Moved w W2 R) := Lib.hid (by rw [hW2]; exact ((HM0.out.trans hm1).alloc _).alloc _)
          have hb1 : w.heap.size ≠ R := by omega
          have hb2 : w1.heap.size ≠ R := by omega
          have hb3 : w1.heap.size + 1 ≠ R := by omega
          have hb4 : w.heap.size < w1.heap.size := by omega
          clear hc1 hm1 hta z
          unfold tkV
          go_wp2_with fail
          rw [← hW2]
          clear hW2
          refine (HSK.out _ HC1.out).mono ?_
          rintro e w3 ⟨rfl, hc3, hm3⟩
          have l1' := l1.moved hm3 hb2
          have HC3 := Lib.hid hc3
          have HM3 := Lib.hid (HM1.out.trans hm3)
          obtain ⟨s0, s1, s2, s3⟩ := l1'.cells
          clear hm3 hc3 l1 l2 hz2
          go_wp2
          go_still_tail 4, (by kernel_rfl)
          change wpList _ _ _ _ _ w3.drew
          go_wp2_with fail
          refine (HNB.out _ HC3.out.drew).mono ?_
          rintro e w4 ⟨rfl, hm4⟩
          exact ⟨rfl, rfl, HM3.out.drew.trans hm4⟩
        · have hnb := fun W hc => notBelow_yes W R T (k + 1 + 1) v1 v2 v3 v4 v5 z r2 x hc hr2 hzk (by omega)
          have HNB := Lib.hid hnb
          have hmm : notBelow x (z :: r2) = .ok (z, r2) := by
            unfold notBelow
            simp only [takeK]
            rw [if_pos (by simpa using hzk)]
            simp only
            rw [if_neg hlz]
          rw [hmm]
          have m0 : (0 : Int) ≤ (z.n : Int) := by omega
          have m1 : (z.n : Int) ≤ 1114111 := by omega
          clear h hr hE hr1 hM0 hs hsk hm hr2 hnb hmm hzk hy2 hlz
          go_enter Tryz.func124, Tryz.ntmps124
          go_wp2_with fail
          refine hta.mono ?_
          rintro e w1 ⟨rfl, hc1, hm1⟩
          have z := (Two.new w 51 (.int .i32 0) (.int .i32 0)).moved hm1 (by omega)
          have hs1 := hm1.size
          rw [World.size_alloc] at hs1
          obtain ⟨W2, hW2⟩ : ∃ W2, W2 = (w1.alloc (.cells #[.int .u8 x.k, .string (str x.t), .int .i64 x.n, .int .i64 x.at_] 92)).alloc (.cells #[.int .u8 x.k, .string (str x.t), .int .i64 x.n, .int .i64 x.at_] 92) := ⟨_, rfl⟩
          have l1 : LTk W2 w1.heap.size x := by rw [hW2]; exact (LTk.new w1 x).alloc _
          have l2 : LTk W2 (w1.heap.size + 1) x := by rw [hW2]; exact LTk.at_ (by simp) x
          have hz2 : Two W2 w.heap.size 51 (.int .i32 0) (.int .i32 0) := by rw [hW2]; exact (z.alloc _).alloc _
          have hs2 : W2.heap.size = w1.heap.size + 2 := by rw [hW2]; simp
          have HC1 : Hid (CU W2 R T (k + 1) v1 v2 v3 v4 v5) := Lib.hid (by rw [hW2]; exact (hc1.alloc _).alloc _)
          have HM1 : Hid (Moved w W2 R) := Lib.hid (by rw [hW2]; exact ((HM0.out.trans hm1).alloc _).alloc _)
          have hb1 : w.heap.size ≠ R := by omega
          have hb2 : w1.heap.size ≠ R := by omega
          have hb3 : w1.heap.size + 1 ≠ R := by omega
          have hb4 : w.heap.size < w1.heap.size := by omega
          clear hc1 hm1 hta z
          unfold tkV
          go_wp2_with fail
          rw [← hW2]
          clear hW2
          refine (HSK.out _ HC1.out).mono ?_
          rintro e w3 ⟨rfl, hc3, hm3⟩
          have hs3 := hm3.size
          have l1' := l1.moved hm3 hb2
          have l2' := l2.moved hm3 hb3
          have hz3 := hz2.moved hm3 hb1
          have hS := l1'.cells
          have HC3 := Lib.hid hc3
          have HM3 := Lib.hid (HM1.out.trans hm3)
          clear hm3 hc3 l1 l2 hz2
          obtain ⟨s0, s1, s2, s3⟩ := hS
          go_wp2
          go_region_held3 (fun w' => w'.cell? ⟨w1.heap.size, 0, none⟩ = some (.int .u8 x.k) ∧ w'.cell? ⟨w1.heap.size, 1, none⟩ = some (.string (str x.t)) ∧ w'.cell? ⟨w1.heap.size, 2, none⟩ = some (.int .i64 x.n) ∧ w'.cell? ⟨w1.heap.size, 3, none⟩ = some (.int .i64 x.at_)) (go_keep)
            ((go_at_call 132; refine (HNB.out _ HC3.out.drew).mono ?_; rintro e w4 ⟨rfl, hc4, hm4⟩; (have hS4 := (LTk.drew l1').moved hm4 hb2 |>.cells); obtain ⟨s4, s5, s6, s7⟩ := hS4; (obtain ⟨t0, t1, t2, t3⟩ := ((LTk.drew l2').moved hm4 hb3).cells); (have g0 := ((LTk.drew l2').moved hm4 hb3).frozen 0); (have g1 := ((LTk.drew l2').moved hm4 hb3).frozen 1); (have g2 := ((LTk.drew l2').moved hm4 hb3).frozen 2); (have g3 := ((LTk.drew l2').moved hm4 hb3).frozen 3); (obtain ⟨y0, y1⟩ := ((hz3.drew).moved hm4 hb1).cells); (have y2 := ((hz3.drew).moved hm4 hb1).frozen 0); (have y3 := ((hz3.drew).moved hm4 hb1).frozen 1); (have hs4 := hm4.size); (have h4 : w.heap.size < w4.heap.size := by simp at hs4; omega); (have HC4 := Lib.hid hc4); (have HM4 := Lib.hid (HM3.out.drew.trans hm4)); clear hc4 hm4 hs4; unfold tkV))
          go_wp2
          refine bodyPost_ret (v := pairV (x.n, z.n)) (by simp [results, Tryz.results124, go_sem, pairV, y0, y1]) rfl ⟨k + 1 + 1 + 1, rfl, ?_, HR3.out, ?_⟩
          · exact (HC4.out.far4 (by show R < w1.heap.size + 1; omega) _ _ _ _).far2 (by show R < w.heap.size; omega) _ _
          · exact (HM4.out.fresh4 (by show w.heap.size ≤ w1.heap.size + 1; omega) _ _ _ _).fresh2 (Nat.le_refl _) _ _
      · have hnb := fun W hc => notBelow_kind W R T (k + 1 + 1) v1 v2 v3 v4 v5 z r2 x hc hr2 hzk
        have HNB := Lib.hid hnb
        have hmm : notBelow x (z :: r2) = .error (30, z.at_) := by
          unfold notBelow
          simp only [takeK]
          rw [if_neg (by simpa using hzk)]
        rw [hmm]
        clear h hr hE hr1 hM0 hs hsk hm hr2 hnb hmm hzk hy2 
        go_enter Tryz.func124, Tryz.ntmps124
        go_wp2_with fail
        refine hta.mono ?_
        rintro e w1 ⟨rfl, hc1, hm1⟩
        have z := (Two.new w 51 (.int .i32 0) (.int .i32 0)).moved hm1 (by omega)
        have hs1 := hm1.size
        rw [World.size_alloc] at hs1
        obtain ⟨W2, hW2⟩ : ∃ W2, W2 = (w1.alloc (.cells #[.int .u8 x.k, .string (str x.t), .int .i64 x.n, .int .i64 x.at_] 92)).alloc (.cells #[.int .u8 x.k, .string (str x.t), .int .i64 x.n, .int .i64 x.at_] 92) := ⟨_, rfl⟩
        have l1 : LTk W2 w1.heap.size x := by rw [hW2]; exact (LTk.new w1 x).alloc _
        have l2 : LTk W2 (w1.heap.size + 1) x := by rw [hW2]; exact LTk.at_ (by simp) x
        have hz2 : Two W2 w.heap.size 51 (.int .i32 0) (.int .i32 0) := by rw [hW2]; exact (z.alloc _).alloc _
        have hs2 : W2.heap.size = w1.heap.size + 2 := by rw [hW2]; simp
        have HC1 : Hid (CU W2 R T (k + 1) v1 v2 v3 v4 v5) := Lib.hid (by rw [hW2]; exact (hc1.alloc _).alloc _)
        have HM1 : Hid (Moved w W2 R) := Lib.hid (by rw [hW2]; exact ((HM0.out.trans hm1).alloc _).alloc _)
        have hb1 : w.heap.size ≠ R := by omega
        have hb2 : w1.heap.size ≠ R := by omega
        have hb3 : w1.heap.size + 1 ≠ R := by omega
        have hb4 : w.heap.size < w1.heap.size := by omega
        clear hc1 hm1 hta z
        unfold tkV
        go_wp2_with fail
        rw [← hW2]
        clear hW2
        refine (HSK.out _ HC1.out).mono ?_
        rintro e w3 ⟨rfl, hc3, hm3⟩
        have l1' := l1.moved hm3 hb2
        have HC3 := Lib.hid hc3
        have HM3 := Lib.hid (HM1.out.trans hm3)
        obtain ⟨s0, s1, s2, s3⟩ := l1'.cells
        clear hm3 hc3 l1 l2 hz2
        go_wp2
        go_still_tail 4, (by kernel_rfl)
        change wpList _ _ _ _ _ w3.drew
        go_wp2_with fail
        refine (HNB.out _ HC3.out.drew).mono ?_
        rintro e w4 ⟨rfl, hm4⟩
        exact ⟨rfl, rfl, HM3.out.drew.trans hm4⟩
  · have hta := take1_no _ R T k v1 v2 v3 v4 v5 x r _ rfl 3 (h.alloc (.cells #[.int .i32 0, .int .i32 0] 51)) hr hk
    rw [World.size_alloc] at hta
    have hm : scalL (T.ts.drop k) = .error (30, x.at_) := by
      rw [hr]
      unfold scalL
      simp only [takeK]
      rw [if_neg (by simpa using hk)]
    rw [hm]
    have HM0 := Lib.hid hM0
    clear h hr hE hM0 hm hk
    go_enter Tryz.func124, Tryz.ntmps124
    go_wp2_with fail
    refine hta.mono ?_
    rintro e w1 ⟨rfl, hm1⟩
    exact ⟨rfl, rfl, HM0.out.trans hm1⟩
end
end Go.Proofs.YthaibekbefndlaaGreatDoor.C

namespace Go.Proofs.YthaibekbefndlaaGreatDoor.C
open Go.RowKit

theorem takeK_suf {ks : List Nat} {ts r : List Tok} {x : Tok} (h : takeK ks ts = .ok (x, r)) : ts = x :: r ∧ x.k ∈ ks := by
 cases ts with
 | nil => simp [takeK] at h
 | cons t l =>
  simp only [takeK] at h
  by_cases hk : t.k ∈ ks
  ·rw [if_pos hk] at h
   simp at h
   obtain ⟨rfl, rfl⟩ := h
   exact ⟨rfl, hk⟩
  ·rw [if_neg hk] at h
   cases h
theorem takeT_suf {k : Nat} {s : List UInt8} {ts r : List Tok} {u : Unit} (h : takeT k s ts = .ok (u, r)) : ∃ x, ts = x :: r ∧ x.k = k := by
 cases ts with
 | nil => simp [takeT] at h
 | cons t l =>
  simp only [takeT] at h
  by_cases hk : t.k = k ∧ t.t = s
  ·rw [if_pos hk] at h
   simp at h
   obtain ⟨_, rfl⟩ := h
   exact ⟨t, rfl, hk.1⟩
  ·rw [if_neg hk] at h
   cases h
def Left (ts r : List Tok) : Prop := Ended r ∧ r.length < ts.length ∧ r <:+ ts
theorem Left.trans {a b c : List Tok} (h : Left a b) (k : Left b c) : Left a c := ⟨k.1, Nat.lt_trans k.2.1 h.2.1, k.2.2.trans h.2.2⟩
theorem left_cons {x : Tok} {r : List Tok} (h : Ended (x :: r)) (hk : x.k ≠ 6) : Left (x :: r) r := ⟨h.cons hk, by simp, List.suffix_cons x r⟩
theorem takeK_left {ks : List Nat} {ts r : List Tok} {x : Tok} (hE : Ended ts) (h : takeK ks ts = .ok (x, r)) (h6 : 6 ∉ ks) : Left ts r := by
 obtain ⟨rfl, hk⟩ := takeK_suf h
 exact left_cons hE (fun e => h6 (e ▸ hk))
theorem takeT_left {k : Nat} {s : List UInt8} {ts r : List Tok} {u : Unit} (hE : Ended ts) (h : takeT k s ts = .ok (u, r)) (h6 : k ≠ 6) : Left ts r := by
 obtain ⟨x, rfl, hk⟩ := takeT_suf h
 exact left_cons hE (fun e => h6 (by rw [← hk]; exact e))
theorem sign_left {s : List UInt8} {ts : List Tok} (hE : Ended ts) (h : isSign s ts = true) : Left ts (ts.drop 1) := by
 cases ts with
 | nil => simp [isSign] at h
 | cons x r =>
  have : x.k = 2 ∧ x.t = s := by simpa [isSign] using h
  exact left_cons hE (by omega)
theorem notBelow_left {a x : Tok} {ts r : List Tok} (hE : Ended ts) (h : notBelow a ts = .ok (x, r)) : Left ts r := by
 unfold notBelow at h
 cases ht : takeK [3] ts with
 | error e => rw [ht] at h; cases h
 | ok y =>
  obtain ⟨b, r'⟩ := y
  rw [ht] at h
  simp only at h
  split at h
  ·cases h
  ·simp at h
   obtain ⟨_, rfl⟩ := h
   exact takeK_left hE ht (by simp)
theorem scalL_left {ts r : List Tok} {x : Int × Int} (hE : Ended ts) (h : scalL ts = .ok (x, r)) : Left ts r := by
 unfold scalL at h
 cases ht : takeK [3] ts with
 | error e => rw [ht] at h; cases h
 | ok y =>
  obtain ⟨a, r1⟩ := y
  rw [ht] at h
  simp only at h
  have h1 := takeK_left hE ht (by simp)
  by_cases hs : isSign sThru r1 = true
  ·rw [if_pos hs] at h
   have h2 := sign_left h1.1 hs
   cases hn : notBelow a (r1.drop 1) with
   | error e => rw [hn] at h; cases h
   | ok z =>
    obtain ⟨b, r2⟩ := z
    rw [hn] at h
    simp at h
    obtain ⟨_, rfl⟩ := h
    exact (h1.trans h2).trans (notBelow_left h2.1 hn)
  ·rw [if_neg hs] at h
   simp at h
   obtain ⟨_, rfl⟩ := h
   exact h1
theorem rangeL_left {rs rs' : List (Int × Int)} {ts r : List Tok} (hE : Ended ts) (h : rangeL rs ts = .ok (rs', r)) : Left ts r := by
 rw [rangeL_scal] at h
 cases hs : scalL ts with
 | error e => rw [hs] at h; cases h
 | ok y =>
  obtain ⟨x, r1⟩ := y
  rw [hs] at h
  simp at h
  obtain ⟨_, rfl⟩ := h
  exact scalL_left hE hs
theorem pairL_left {l l' : List (Int × Int)} {ts r : List Tok} (hE : Ended ts) (h : pairL l ts = .ok (l', r)) : Left ts r := by
 unfold pairL at h
 cases h1 : takeT 2 sOpen ts with
 | error e => rw [h1] at h; cases h
 | ok y1 =>
  obtain ⟨u1, r1⟩ := y1
  have k1 := takeT_left hE h1 (by omega)
  rw [h1] at h
  simp only at h
  cases h2 : takeK [3] r1 with
  | error e => rw [h2] at h; cases h
  | ok y2 =>
   obtain ⟨a, r2⟩ := y2
   have k2 := takeK_left k1.1 h2 (by simp)
   rw [h2] at h
   simp only at h
   split at h
   ·cases h
   ·cases h3 : takeT 2 sComma r2 with
    | error e => rw [h3] at h; cases h
    | ok y3 =>
     obtain ⟨u3, r3⟩ := y3
     have k3 := takeT_left k2.1 h3 (by omega)
     rw [h3] at h
     simp only at h
     cases h4 : takeK [3] r3 with
     | error e => rw [h4] at h; cases h
     | ok y4 =>
      obtain ⟨b, r4⟩ := y4
      have k4 := takeK_left k3.1 h4 (by simp)
      rw [h4] at h
      simp only at h
      cases h5 : takeT 2 sShut r4 with
      | error e => rw [h5] at h; cases h
      | ok y5 =>
       obtain ⟨u5, r5⟩ := y5
       have k5 := takeT_left k4.1 h5 (by omega)
       rw [h5] at h
       simp at h
       obtain ⟨_, rfl⟩ := h
       exact (((k1.trans k2).trans k3).trans k4).trans k5
def contL {σ : Type} (item : σ → List Tok → Re σ) (f : Nat) (s : σ) (r : List Tok) : Re σ := if isSign sSemi r then itemsL item f s (r.drop 1) else .ok (s, r)
theorem itemsL_cont {σ : Type} (item : σ → List Tok → Re σ) (f : Nat) (s : σ) (ts : List Tok) : itemsL item (f + 1) s ts = match item s ts with
  | .error e => .error e
  | .ok (s', r) => contL item f s' r := rfl
theorem itemsL_left {σ : Type} (item : σ → List Tok → Re σ) (hi : ∀ s s' ts r, Ended ts → item s ts = .ok (s', r) → Left ts r) : ∀ f s s' ts r, Ended ts → itemsL item f s ts = .ok (s', r) → Left ts r
 | 0, s, s', ts, r, _, h => by cases h
 | f + 1, s, s', ts, r, hE, h => by
  rw [itemsL_cont] at h
  cases h1 : item s ts with
  | error e => rw [h1] at h; cases h
  | ok y =>
   obtain ⟨s1, r1⟩ := y
   have k1 := hi s s1 ts r1 hE h1
   rw [h1] at h
   simp only [contL] at h
   by_cases hs : isSign sSemi r1 = true
   ·rw [if_pos hs] at h
    have k2 := sign_left k1.1 hs
    exact (k1.trans k2).trans (itemsL_left item hi f s1 s' _ r k2.1 h)
   ·rw [if_neg hs] at h
    simp at h
    obtain ⟨rfl, rfl⟩ := h
    exact k1
def ItTold {σ : Type} (T : TV) (I : σ → Nat → World → Prop) (Fin : World → Prop) : Re σ → Ending → World → Prop
 | .ok (s, r), e, w' => ∃ k, e = .returned (.tuple #[]) ∧ I s k w' ∧ T.ts.drop k = r
 | .error er, e, w' => e = .panicked (faultV er.1 er.2) ∧ Fin w'

theorem skips_cu {W W' : World} {R k k' : Nat} {T : TV} {a1 a2 a3 a4 a5 v1 v2 v3 v4 v5 : Value} (h' : CU W' R T k' a1 a2 a3 a4 a5) (h : CU W R T k v1 v2 v3 v4 v5) (hW : CU W R T k a1 a2 a3 a4 a5) : CU W' R T k' v1 v2 v3 v4 v5 := by
 have e := h.1.symm.trans hW.1
 simp at e
 obtain ⟨rfl, rfl, rfl, rfl, rfl⟩ := e
 exact h'

set_option maxRecDepth 100000 in
set_option maxHeartbeats 4000000 in
theorem itemsRange_any {σ : Type} (item : σ → List Tok → Re σ) (w : World) (R : Nat) (T : TV) (k0 : Nat) (V0 V1 : Nat) (s0 : σ) (f0 : Nat) (I : σ → Nat → World → Prop) (Fin : World → Prop)
  (hi : ∀ s s' ts r, Ended ts → item s ts = .ok (s', r) → Left ts r)
  (hcu : ∀ s k W, I s k W → ∃ v1 v2 v3 v4 v5, CU W R T k v1 v2 v3 v4 v5)
  (hgo : ∀ s k W W', I s k W → (∀ v1 v2 v3 v4 v5, CU W R T k v1 v2 v3 v4 v5 → CU W' R T (k + 1) v1 v2 v3 v4 v5) → Moved W W' R → I s (k + 1) W')
  (hbel : ∀ s k W W', I s k W → Below W.heap.size W W' → I s k W')
  (hit : ∀ s k W, I s k W → Ended (T.ts.drop k) → Calls Tryz.prog 123 #[.pointer (some ⟨V0, 0, none⟩), .pointer (some ⟨V1, 0, none⟩)] W (ItTold T I Fin (item s (T.ts.drop k))))
  (h0 : I s0 k0 w) (hE : Ended (T.ts.drop k0)) (hf : (T.ts.drop k0).length ≤ f0) :
  Calls Tryz.prog 122 #[.pointer (some ⟨R, 0, none⟩), .func (.func 123) #[] #[.pointer (some ⟨V0, 0, none⟩), .pointer (some ⟨V1, 0, none⟩)]] w (ItTold T I Fin (itemsL item (f0 + 1) s0 (T.ts.drop k0))) := by
 have hc0 := hit s0 k0 w h0 hE
 rw [itemsL_cont]
 have HI := Lib.hid hi
 have HCU := Lib.hid hcu
 have HGO := Lib.hid hgo
 have HBEL := Lib.hid hbel
 have HIT := Lib.hid hit
 cases h1 : item s0 (T.ts.drop k0) with
 | error er =>
  rw [h1] at hc0
  clear hi hcu hgo hbel hit h0 hE hf h1
  simp only
  go_enter Tryz.func122, Tryz.ntmps122
  go_wp2_with fail
  refine hc0.mono ?_
  rintro e w1 ⟨rfl, hF⟩
  exact ⟨rfl, rfl, hF⟩
 | ok y =>
  obtain ⟨s1, r1⟩ := y
  rw [h1] at hc0
  have hL := hi s0 s1 _ r1 hE h1
  have hlen : r1.length ≤ f0 := by have := hL.2.1; omega
  have HL := Lib.hid hL
  simp only
  obtain ⟨M, hM⟩ : ∃ M, M = contL item f0 s1 r1 := ⟨_, rfl⟩
  rw [← hM]
  have HM := Lib.hid hM
  clear hi hcu hgo hbel hit h0 hE hf h1 hL hM
  go_enter Tryz.func122, Tryz.ntmps122
  go_wp2_with fail
  refine hc0.mono ?_
  rintro e w1 ⟨k1, rfl, hI1, hr1⟩
  have HI1 := Lib.hid hI1
  have HR1 := Lib.hid hr1
  clear hI1 hr1 hc0
  go_wp2
  go_loopg [7] r1.length (fun g _bv wr => ∃ (s : σ) (k f : Nat), Hid (I s k wr) ∧ Hid (M = contL item f s (T.ts.drop k)) ∧ Hid (Ended (T.ts.drop k)) ∧ (T.ts.drop k).length ≤ g ∧ (T.ts.drop k).length ≤ f)
  case atStart => exact ⟨s1, k1, f0, HI1, Lib.hid (by rw [HR1.out]; exact HM.out), Lib.hid (by rw [HR1.out]; exact HL.out.1), by rw [HR1.out]; exact Nat.le_refl _, by rw [HR1.out]; exact hlen⟩
  case round =>
   obtain ⟨s, k, f, HIk, HMk, HEk, hg, hfk⟩ := hrel
   obtain ⟨v1, v2, v3, v4, v5, hcu⟩ := HCU.out s k wr HIk.out
   have HCK := Lib.hid hcu
   obtain ⟨x, r, hx⟩ := HEk.out.some_
   cases hs : isSign sSemi (x :: r) with
   | false =>
    have hsk := skips_no wr R T k v1 v2 v3 v4 v5 x r sSemi hcu hx hs
    have hMk : M = .ok (s, T.ts.drop k) := by
     have := HMk.out
     unfold contL at this
     rw [hx, hs, if_neg (by simp)] at this
     rw [this, hx]
    have HMk2 := Lib.hid hMk
    clear hcu hx hs hMk
    go_wp2_with (go_at_call 130; refine hsk.mono ?_; rintro e w2 ⟨rfl, hb⟩; have HI2 := Lib.hid (HBEL.out s k wr w2 HIk.out hb); clear hb)
    rw [HMk2.out]
    go_end0
    exact ⟨k, rfl, HI2.out, rfl⟩
   | true =>
    have hsk := skips_yes wr R T k v1 v2 v3 v4 v5 x r sSemi hcu hx hs
    have hL2 := sign_left (ts := T.ts.drop k) HEk.out (by rw [hx]; exact hs)
    have hd : (T.ts.drop k).drop 1 = T.ts.drop (k + 1) := by rw [List.drop_drop]
    rw [hd] at hL2
    have hlen2 := hL2.2.1
    obtain ⟨f', rfl⟩ : ∃ f', f = f' + 1 := ⟨f - 1, by omega⟩
    have hMk : M = match item s (T.ts.drop (k + 1)) with
      | .error e => .error e
      | .ok (s', r) => contL item f' s' r := by
     have := HMk.out
     unfold contL at this
     rw [if_pos (by rw [hx]; exact hs), hd, itemsL_cont] at this
     exact this
    have HE2 := Lib.hid hL2.1
    have hit2 := fun W h => HIT.out s (k + 1) W h HE2.out
    cases h2 : item s (T.ts.drop (k + 1)) with
    | error er =>
     rw [h2] at hMk
     have hit3 : ∀ W, I s (k + 1) W → Calls Tryz.prog 123 #[.pointer (some ⟨V0, 0, none⟩), .pointer (some ⟨V1, 0, none⟩)] W (ItTold T I Fin (.error er)) := fun W h => by have := hit2 W h; rwa [h2] at this
     have HIT3 := Lib.hid hit3
     have HMk2 := Lib.hid hMk
     clear hcu hx hs hMk hit2 hit3 h2 hL2 hd
     go_wp2_with (first
      | (go_at_call 130; refine hsk.mono ?_; rintro e w2 ⟨rfl, hc2, hm2⟩; have HI2 := Lib.hid (HGO.out s k wr w2 HIk.out (fun _ _ _ _ _ h => (skips_cu hc2 h HCK.out)) hm2); clear hc2 hm2)
      | (go_at_call 123; refine (HIT3.out _ HI2.out).mono ?_; rintro e w3 ⟨rfl, hF⟩; rw [HMk2.out]))
     exact ⟨rfl, rfl, hF⟩
    | ok y2 =>
     obtain ⟨s2, r2⟩ := y2
     rw [h2] at hMk
     have hit3 : ∀ W, I s (k + 1) W → Calls Tryz.prog 123 #[.pointer (some ⟨V0, 0, none⟩), .pointer (some ⟨V1, 0, none⟩)] W (ItTold T I Fin (.ok (s2, r2))) := fun W h => by have := hit2 W h; rwa [h2] at this
     have hL3 := HI.out s s2 _ r2 HE2.out h2
     have hlen3 := hL3.2.1
     have HE3 := Lib.hid hL3.1
     have HIT3 := Lib.hid hit3
     have HMk2 := Lib.hid hMk
     clear hcu hx hs hMk hit2 hit3 h2 hL2 hd hL3
     go_wp2_with (first
      | (go_at_call 130; refine hsk.mono ?_; rintro e w2 ⟨rfl, hc2, hm2⟩; have HI2 := Lib.hid (HGO.out s k wr w2 HIk.out (fun _ _ _ _ _ h => (skips_cu hc2 h HCK.out)) hm2); clear hc2 hm2)
      | (go_at_call 123; refine (HIT3.out _ HI2.out).mono ?_; rintro e w3 ⟨k3, rfl, hI3, hr3⟩; have HI3 := Lib.hid hI3; have HR3 := Lib.hid hr3; clear hI3 hr3))
     go_roundg r2.length
     case measure => omega
     case rel => exact ⟨s2, k3, f', HI3, Lib.hid (by rw [HR3.out]; exact HMk2.out), Lib.hid (by rw [HR3.out]; exact HE3.out), by rw [HR3.out]; exact Nat.le_refl _, by rw [HR3.out]; omega⟩

end Go.Proofs.YthaibekbefndlaaGreatDoor.C

namespace Go.Proofs.YthaibekbefndlaaGreatDoor.C
open Go.RowKit

def TOk (x : Tok) : Prop := x.n ≤ 1114111 ∧ x.t.length ≤ 4000
theorem tokL_ok {l t : List UInt8} {k n m : Nat} (h : tokL l = some (k, t, n, m)) : n ≤ 1114111 ∧ t.length ≤ l.length := by
 unfold tokL at h
 cases hs : signL l with
 | some s =>
  rw [hs] at h
  simp at h
  obtain ⟨_, rfl, rfl, _⟩ := h
  refine ⟨by omega, ?_⟩
  cases l with
  | nil => simp [signL] at hs
  | cons c r =>
   rw [signL_cons] at hs
   split at hs
   ·simp at hs; subst hs; simp
   ·split at hs
    ·rename_i h2
     simp at hs
     subst hs
     have := congrArg List.length h2.2
     rw [List.length_take] at this
     simp at this ⊢
     omega
    ·cases hs
 | none =>
  rw [hs] at h
  simp only at h
  cases hn : numL (nameL l) with
  | some v =>
   rw [hn] at h
   simp only at h
   split at h
   ·rename_i hr
    simp at h
    obtain ⟨_, rfl, rfl, _⟩ := h
    exact ⟨rightN_le hr, by simp⟩
   ·cases h
  | none =>
   rw [hn] at h
   simp only at h
   split at h
   ·rename_i hne
    simp at h
    obtain ⟨_, rfl, rfl, _⟩ := h
    have := nameL_len l hne
    exact ⟨by omega, by omega⟩
   ·cases hq : quoL l with
    | some q =>
     rw [hq] at h
     simp at h
     obtain ⟨_, rfl, rfl, _⟩ := h
     refine ⟨by omega, ?_⟩
     cases l with
     | nil => simp [quoL] at hq
     | cons c r =>
      rw [quoL_cons] at hq
      split at hq
      ·rename_i h2
       simp only [Option.some.injEq] at hq
       subst hq
       have := h2.2.1
       simp only [List.length_cons]
       omega
      ·cases hq
    | none =>
     rw [hq] at h
     simp only at h
     split at h
     ·simp at h
      obtain ⟨_, rfl, rfl, _⟩ := h
      exact ⟨by omega, wordL_len l⟩
     ·cases h
theorem endL_ok {acc : List Tok} (k : Nat) (h : ∀ x ∈ acc, TOk x) : (∀ x ∈ endL acc k, TOk x) ∧ lastK (endL acc k) = 6 := by
 unfold endL
 by_cases h6 : lastK acc = 6
 ·rw [if_pos h6]
  exact ⟨h, h6⟩
 ·rw [if_neg h6]
  refine ⟨fun x hx => ?_, lastK_snoc _ _⟩
  rcases List.mem_append.1 hx with hx | hx
  ·exact h x hx
  ·rw [List.mem_singleton] at hx
   subst hx
   exact ⟨by simp, by simp⟩
theorem stepL_ok {l : List UInt8} {k m : Nat} {acc acc' : List Tok} (hl : l.length ≤ 4000) (hg : ∀ x ∈ acc, TOk x) (h : stepL l k acc = some (acc', m)) : ∀ x ∈ acc', TOk x := by
 unfold stepL at h
 split at h
 ·simp at h
  obtain ⟨rfl, _⟩ := h
  exact hg
 ·split at h
  ·simp at h
   obtain ⟨rfl, _⟩ := h
   exact (endL_ok k hg).1
  ·cases ht : tokL l with
   | none => rw [ht] at h; cases h
   | some x =>
    obtain ⟨kd, t, n, m'⟩ := x
    rw [ht] at h
    simp at h
    obtain ⟨rfl, _⟩ := h
    have := tokL_ok ht
    intro x hx
    rcases List.mem_append.1 hx with hx | hx
    ·exact hg x hx
    ·rw [List.mem_singleton] at hx
     subst hx
     exact ⟨this.1, Nat.le_trans this.2 hl⟩
theorem run_ok : ∀ (f : Nat) (l : List UInt8) (k : Nat) (acc : List Tok), l.length ≤ f → l.length ≤ 4000 → (∀ x ∈ acc, TOk x) → ∀ ts, runL l k acc = .inl ts → (∀ x ∈ ts, TOk x) ∧ lastK ts = 6
 | f, [], k, acc, _, _, hg, ts, h => by
  rw [runL_nil] at h
  injection h with h
  subst h
  exact endL_ok k hg
 | 0, c :: r, k, acc, hf, _, _, _, _ => by simp at hf
 | f + 1, c :: r, k, acc, hf, hl, hg, ts, h => by
  rw [runL] at h
  cases hs : stepL (c :: r) k acc with
  | none => rw [hs] at h; cases h
  | some x =>
   obtain ⟨acc', m⟩ := x
   rw [hs] at h
   simp only at h
   refine run_ok f (r.drop (m - 1)) _ acc' ?_ ?_ (stepL_ok hl hg hs) ts h
   ·simp only [List.length_cons, List.length_drop] at hf ⊢; omega
   ·simp only [List.length_cons, List.length_drop] at hl ⊢; omega
theorem ended_of {ts : List Tok} (h : lastK ts = 6) : ts = [] ∨ Ended ts := by
 rcases List.eq_nil_or_concat ts with rfl | ⟨p, x, rfl⟩
 ·exact .inl rfl
 ·refine .inr ⟨p, x, by simp, ?_⟩
  rw [List.concat_eq_append, lastK_snoc] at h
  exact h
theorem lex_ok {t : List UInt8} {ts : List Tok} {a : Nat} (h : lexL t = (ts, 0, a)) : (∀ x ∈ ts, TOk x) ∧ (ts = [] ∨ Ended ts) ∧ ts.length ≤ 1000 := by
 unfold lexL at h
 by_cases h4 : 4000 < t.length
 ·rw [if_pos h4] at h
  cases h
 ·rw [if_neg h4] at h
  cases hr : runL t 0 [] with
  | inr k => rw [hr] at h; cases h
  | inl us =>
   rw [hr] at h
   simp only at h
   by_cases hb : 1000 < us.length
   ·rw [if_pos hb] at h
    cases h
   ·rw [if_neg hb] at h
    injection h with h
    subst h
    have := run_ok t.length t 0 [] (Nat.le_refl _) (by omega) (by simp) us hr
    exact ⟨this.1, ended_of this.2, by omega⟩
end Go.Proofs.YthaibekbefndlaaGreatDoor.C
