/-
  Joined: LcF, LcH, LcI, LcO. Each with what its own head says.
-/
import Derived.Deep.RegionWith
import Derived.OrdersHeld
import Derived.Test.YthaibekbefndlaaGreatDoorH06

namespace Go.Proofs.YthaibekbefndlaaGreatDoor.C
open Go.RowKit

def Ended (ts : List Tok) : Prop := ∃ p x, ts = p ++ [x] ∧ x.k = 6
theorem Ended.cons {x : Tok} {r : List Tok} (h : Ended (x :: r)) (hk : x.k ≠ 6) : Ended r := by
  obtain ⟨p, y, he, hy⟩ := h
  cases p with
  | nil =>
    simp at he
    exact absurd (he.1 ▸ hy) hk
  | cons a p =>
    simp at he
    exact ⟨p, y, he.2, hy⟩
theorem Ended.some_ {ts : List Tok} (h : Ended ts) : ∃ x r, ts = x :: r := by
  obtain ⟨p, y, he, _⟩ := h
  cases p with
  | nil => exact ⟨y, [], he⟩
  | cons a p => exact ⟨a, p ++ [y], he⟩
def NumOk (T : TV) : Prop := ∀ t ∈ T.ts, t.n ≤ 1114111
theorem NumOk.at_ {T : TV} (h : NumOk T) {k : Nat} {x : Tok} {r : List Tok} (hr : T.ts.drop k = x :: r) : x.n ≤ 1114111 := h x (List.mem_of_mem_drop (i := k) (by rw [hr]; simp))

def ReTold {α : Type} (w : World) (R : Nat) (T : TV) (v1 v2 v3 v4 v5 : Value) (val : α → Value) : Re α → Ending → World → Prop
  | .ok (a, r), e, w' => ∃ k, e = .returned (val a) ∧ CU w' R T k v1 v2 v3 v4 v5 ∧ T.ts.drop k = r ∧ Moved w w' R
  | .error er, e, w' => e = .panicked (faultV er.1 er.2) ∧ Moved w w' R
def scalL (ts : List Tok) : Re (Int × Int) :=
  match takeK [3] ts with
  | .error e => .error e
  | .ok (a, r) => if isSign sThru r then
      match notBelow a (r.drop 1) with
      | .error e => .error e
      | .ok (b, r') => .ok (((a.n : Int), (b.n : Int)), r')
    else .ok (((a.n : Int), (a.n : Int)), r)
theorem rangeL_scal (rs : List (Int × Int)) (ts : List Tok) : rangeL rs ts = match scalL ts with
    | .error e => .error e
    | .ok (x, r) => .ok (rs ++ [x], r) := by
  unfold rangeL scalL
  rcases takeK [3] ts with e | ⟨a, r⟩
  · rfl
  · simp only
    by_cases h : isSign sThru r = true
    · rw [if_pos h, if_pos h]
      rcases notBelow a (r.drop 1) with e | ⟨b, r'⟩ <;> rfl
    · rw [if_neg h, if_neg h]
def pairV (x : Int × Int) : Value := .agg #[.int .i32 x.1, .int .i32 x.2]
theorem drop_next {T : TV} {k : Nat} {x : Tok} {r : List Tok} (hr : T.ts.drop k = x :: r) : T.ts.drop (k + 1) = r := by
  rw [← List.drop_drop, hr]; rfl
def Two (w : World) (b : Nat) (t : TypeId) (u v : Value) : Prop := w.heap[b]? = some (.cells #[u, v] t (0, 0))
theorem Two.cells {w : World} {b : Nat} {t : TypeId} {u v : Value} (h : Two w b t u v) : w.cell? ⟨b, 0, none⟩ = some u ∧ w.cell? ⟨b, 1, none⟩ = some v := by simp [World.cell?, show w.heap[b]? = _ from h]
theorem Two.frozen {w : World} {b : Nat} {t : TypeId} {u v : Value} (h : Two w b t u v) (i : Nat) : w.frozen? ⟨b, i, none⟩ = false := by simp [World.frozen?, show w.heap[b]? = _ from h]
theorem Two.lt {w : World} {b : Nat} {t : TypeId} {u v : Value} (h : Two w b t u v) : b < w.heap.size := (Array.getElem?_eq_some_iff.1 h).1
theorem Two.moved {w w' : World} {R b : Nat} {t : TypeId} {u v : Value} (h : Two w b t u v) (hm : Moved w w' R) (hne : b ≠ R) : Two w' b t u v := (hm.block b h.lt (fun e => by injection e with e; exact hne e)).trans h
theorem Two.alloc {w : World} {b : Nat} {t : TypeId} {u v : Value} (h : Two w b t u v) (o : Obj) : Two (w.alloc o) b t u v := (Below.heap_alloc w o b h.lt).trans h
theorem Two.drew {w : World} {b : Nat} {t : TypeId} {u v : Value} (h : Two w b t u v) : Two w.drew b t u v := h
theorem Two.new (w : World) (t : TypeId) (u v : Value) : Two (w.alloc (.cells #[u, v] t)) w.heap.size t u v := heap_alloc_new w _
theorem LTk.at_ {w : World} {g : Nat} (hg : w.heap.size = g) (x : Tok) : LTk (w.alloc (.cells #[.int .u8 x.k, .string (str x.t), .int .i64 x.n, .int .i64 x.at_] 92)) g x := by subst hg; exact LTk.new w x

theorem CU.far2 {w : World} {R k b : Nat} {T : TV} {v1 v2 v3 v4 v5 : Value} (h : CU w R T k v1 v2 v3 v4 v5) (hb : R < b) (u v : Value) : CU ((w.setCell ⟨b, 0, none⟩ u).setCell ⟨b, 1, none⟩ v) R T k v1 v2 v3 v4 v5 :=
  (h.far (p := ⟨b, 0, none⟩) hb u).far (p := ⟨b, 1, none⟩) hb v
theorem Moved.fresh2 {w w' : World} {R b : Nat} (h : Moved w w' R) (hb : w.heap.size ≤ b) (u v : Value) : Moved w ((w'.setCell ⟨b, 0, none⟩ u).setCell ⟨b, 1, none⟩ v) R :=
  (h.fresh (p := ⟨b, 0, none⟩) hb u).fresh (p := ⟨b, 1, none⟩) hb v
theorem CU.far4 {w : World} {R k b : Nat} {T : TV} {v1 v2 v3 v4 v5 : Value} (h : CU w R T k v1 v2 v3 v4 v5) (hb : R < b) (u v x y : Value) : CU ((((w.setCell ⟨b, 0, none⟩ u).setCell ⟨b, 1, none⟩ v).setCell ⟨b, 2, none⟩ x).setCell ⟨b, 3, none⟩ y) R T k v1 v2 v3 v4 v5 :=
  ((h.far2 hb u v).far (p := ⟨b, 2, none⟩) hb x).far (p := ⟨b, 3, none⟩) hb y
theorem Moved.fresh4 {w w' : World} {R b : Nat} (h : Moved w w' R) (hb : w.heap.size ≤ b) (u v x y : Value) : Moved w ((((w'.setCell ⟨b, 0, none⟩ u).setCell ⟨b, 1, none⟩ v).setCell ⟨b, 2, none⟩ x).setCell ⟨b, 3, none⟩ y) R :=
  ((h.fresh2 hb u v).fresh (p := ⟨b, 2, none⟩) hb x).fresh (p := ⟨b, 3, none⟩) hb y
section
variable (w : World) (R : Nat) (T : TV) (k : Nat) (v1 v2 v3 v4 v5 : Value)
set_option maxRecDepth 100000 in
set_option maxHeartbeats 2000000 in
theorem scalars_any (h : CU w R T k v1 v2 v3 v4 v5) (hN : NumOk T) (hE : Ended (T.ts.drop k)) :
    Calls Tryz.prog 124 #[.pointer (some ⟨R, 0, none⟩)] w (ReTold w R T v1 v2 v3 v4 v5 pairV (scalL (T.ts.drop k))) := by
  obtain ⟨x, r, hr⟩ := hE.some_
  have hlt := h.lt
  have hM0 : Moved w (w.alloc (.cells #[.int .i32 0, .int .i32 0] 51)) R := (Moved.refl w R).alloc _
  by_cases hk : x.k = 3
  · have hx := hN.at_ hr
    have hta := take1_yes _ R T k v1 v2 v3 v4 v5 x r _ rfl 3 (h.alloc (.cells #[.int .i32 0, .int .i32 0] 51)) hr hk
    rw [World.size_alloc] at hta
    have hr1 := drop_next hr
    rw [hr] at hE
    obtain ⟨y, r1, hy⟩ := (hE.cons (by omega)).some_
    subst hy
    have hm : scalL (T.ts.drop k) = if isSign sThru (y :: r1) then
      match notBelow x r1 with
      | .error e => .error e
      | .ok (b, r') => .ok (((x.n : Int), (b.n : Int)), r')
      else .ok (((x.n : Int), (x.n : Int)), y :: r1) := by
      rw [hr]
      unfold scalL
      simp only [takeK]
      rw [if_pos (by simpa using hk)]
      rfl
    rw [hm]
    have n0 : (0 : Int) ≤ (x.n : Int) := by omega
    have n1 : (x.n : Int) ≤ 1114111 := by omega
    have HK := Lib.hid hk
    clear hk
    cases hs : isSign sThru (y :: r1) with
    | false =>
      have hsk := fun W hc => skips_no W R T (k + 1) v1 v2 v3 v4 v5 y r1 sThru hc hr1 hs
      have HSK := Lib.hid hsk
      have HR1 := Lib.hid hr1
      have HM0 := Lib.hid hM0
      rw [if_neg (by simp)]
      clear h hr hE hr1 hM0 hs hsk hm
      go_enter Tryz.func124, Tryz.ntmps124
      go_wp2_with fail
      refine hta.mono ?_
      rintro e w1 ⟨rfl, hc1, hm1⟩
      have z := (Two.new w 51 (.int .i32 0) (.int .i32 0)).moved hm1 (by omega)
      have hs1 := hm1.size
      rw [World.size_alloc] at hs1
      obtain ⟨W2, hW2⟩ : ∃ W2, W2 = (w1.alloc (.cells #[.int .u8 x.k, .string (str x.t), .int .i64 x.n, .int .i64 x.at_] 92)).alloc (.cells #[.int .u8 x.k, .string (str x.t), .int .i64 x.n, .int .i64 x.at_] 92) := ⟨_, rfl⟩
      have l1 : LTk W2 w1.heap.size x := by rw [hW2]; exact (LTk.new w1 x).alloc _
      have l2 : LTk W2 (w1.heap.size + 1) x := by rw [hW2]; exact LTk.at_ (by simp) x
      have hz2 : Two W2 w.heap.size 51 (.int .i32 0) (.int .i32 0) := by rw [hW2]; exact (z.alloc _).alloc _
      have hs2 : W2.heap.size = w1.heap.size + 2 := by rw [hW2]; simp
      have HC1 : Hid (CU W2 R T (k + 1) v1 v2 v3 v4 v5) := Lib.hid (by rw [hW2]; exact (hc1.alloc _).alloc _)
      have HM1 : Hid (Moved w W2 R) := Lib.hid (by rw [hW2]; exact ((HM0.out.trans hm1).alloc _).alloc _)
      have hb1 : w.heap.size ≠ R := by omega
      have hb2 : w1.heap.size ≠ R := by omega
      have hb3 : w1.heap.size + 1 ≠ R := by omega
      have hb4 : w.heap.size < w1.heap.size := by omega
      clear hc1 hm1 hta z
      unfold tkV
      go_wp2_with fail
      rw [← hW2]
      clear hW2
      refine (HSK.out _ HC1.out).mono ?_
      rintro e w3 ⟨rfl, hb⟩
      have hs3 := hb.size
      obtain ⟨-, -, a2, -⟩ := (l1.moved (.of_below (R := R) hb) hb2).cells
      obtain ⟨-, -, b2, -⟩ := (l2.moved (.of_below (R := R) hb) hb3).cells
      have hz3 := hz2.moved (.of_below (R := R) hb) hb1
      obtain ⟨z0, z1⟩ := hz3.cells
      have f0 := hz3.frozen 0
      have f1 := hz3.frozen 1
      have HC3 := Lib.hid (HC1.out.next hb)
      have HM3 := Lib.hid (HM1.out.trans (.of_below hb))
      have h3 : w.heap.size < w3.heap.size := by omega
      clear hb hz3 l1 l2 hz2 hs2 hs3
      go_wp2
      refine bodyPost_ret (v := pairV (x.n, x.n)) (by simp [results, Tryz.results124, go_sem, pairV, z0, z1]) rfl ⟨k + 1, rfl, ?_, HR1.out, ?_⟩
      · exact HC3.out.far2 (by show R < w.heap.size; omega) _ _
      · exact HM3.out.fresh2 (Nat.le_refl _) _ _
    | true =>
      have hy2 : y.k = 2 := by have : y.k = 2 ∧ y.t = sThru := by simpa [isSign] using hs
                               exact this.1
      have hsk := fun W hc => skips_yes W R T (k + 1) v1 v2 v3 v4 v5 y r1 sThru hc hr1 hs
      have HSK := Lib.hid hsk
      have hr2 := drop_next hr1
      obtain ⟨z, r2, hz⟩ := ((hE.cons (by have := HK.out; omega)).cons (by omega)).some_
      subst hz
      have hzn := hN.at_ hr2
      have HR3 := Lib.hid (drop_next hr2)
      have HM0 := Lib.hid hM0
      rw [if_pos rfl]
      by_cases hzk : z.k = 3
      · by_cases hlz : z.n < x.n
        · have hnb := fun W hc => notBelow_less W R T (k + 1 + 1) v1 v2 v3 v4 v5 z r2 x hc hr2 hzk hlz
          have HNB := Lib.hid hnb
          have hmm : notBelow x (z :: r2) = .error (30, z.at_) := by
            unfold notBelow
            simp only [takeK]
            rw [if_pos (by simpa using hzk)]
            simp only
            rw [if_pos hlz]
          rw [hmm]
          clear h hr hE hr1 hM0 hs hsk hm hr2 hnb hmm hzk hy2 hlz
          go_enter Tryz.func124, Tryz.ntmps124
          go_wp2_with fail
          refine hta.mono ?_
          rintro e w1 ⟨rfl, hc1, hm1⟩
          have z := (Two.new w 51 (.int .i32 0) (.int .i32 0)).moved hm1 (by omega)
          have hs1 := hm1.size
          rw [World.size_alloc] at hs1
          obtain ⟨W2, hW2⟩ : ∃ W2, W2 = (w1.alloc (.cells #[.int .u8 x.k, .string (str x.t), .int .i64 x.n, .int .i64 x.at_] 92)).alloc (.cells #[.int .u8 x.k, .string (str x.t), .int .i64 x.n, .int .i64 x.at_] 92) := ⟨_, rfl⟩
          have l1 : LTk W2 w1.heap.size x := by rw [hW2]; exact (LTk.new w1 x).alloc _
          have l2 : LTk W2 (w1.heap.size + 1) x := by rw [hW2]; exact LTk.at_ (by simp) x
          have hz2 : Two W2 w.heap.size 51 (.int .i32 0) (.int .i32 0) := by rw [hW2]; exact (z.alloc _).alloc _
          have hs2 : W2.heap.size = w1.heap.size + 2 := by rw [hW2]; simp
          have HC1 : Hid (CU W2 R T (k + 1) v1 v2 v3 v4 v5) := Lib.hid (by rw [hW2]; exact (hc1.alloc _).alloc _)
          have HM1 : Hid (Moved w W2 R) := Lib.hid (by rw [hW2]; exact ((HM0.out.trans hm1).alloc _).alloc _)
          have hb1 : w.heap.size ≠ R := by omega
          have hb2 : w1.heap.size ≠ R := by omega
          have hb3 : w1.heap.size + 1 ≠ R := by omega
          have hb4 : w.heap.size < w1.heap.size := by omega
          clear hc1 hm1 hta z
          unfold tkV
          go_wp2_with fail
          rw [← hW2]
          clear hW2
          refine (HSK.out _ HC1.out).mono ?_
          rintro e w3 ⟨rfl, hc3, hm3⟩
          have l1' := l1.moved hm3 hb2
          have HC3 := Lib.hid hc3
          have HM3 := Lib.hid (HM1.out.trans hm3)
          obtain ⟨s0, s1, s2, s3⟩ := l1'.cells
          clear hm3 hc3 l1 l2 hz2
          go_wp2
          go_still_tail 4, (by kernel_rfl)
          change wpList _ _ _ _ _ w3.drew
          go_wp2_with fail
          refine (HNB.out _ HC3.out.drew).mono ?_
          rintro e w4 ⟨rfl, hm4⟩
          exact ⟨rfl, rfl, HM3.out.drew.trans hm4⟩
        · have hnb := fun W hc => notBelow_yes W R T (k + 1 + 1) v1 v2 v3 v4 v5 z r2 x hc hr2 hzk (by omega)
          have HNB := Lib.hid hnb
          have hmm : notBelow x (z :: r2) = .ok (z, r2) := by
            unfold notBelow
            simp only [takeK]
            rw [if_pos (by simpa using hzk)]
            simp only
            rw [if_neg hlz]
          rw [hmm]
          have m0 : (0 : Int) ≤ (z.n : Int) := by omega
          have m1 : (z.n : Int) ≤ 1114111 := by omega
          clear h hr hE hr1 hM0 hs hsk hm hr2 hnb hmm hzk hy2 hlz
          go_enter Tryz.func124, Tryz.ntmps124
          go_wp2_with fail
          refine hta.mono ?_
          rintro e w1 ⟨rfl, hc1, hm1⟩
          have z := (Two.new w 51 (.int .i32 0) (.int .i32 0)).moved hm1 (by omega)
          have hs1 := hm1.size
          rw [World.size_alloc] at hs1
          obtain ⟨W2, hW2⟩ : ∃ W2, W2 = (w1.alloc (.cells #[.int .u8 x.k, .string (str x.t), .int .i64 x.n, .int .i64 x.at_] 92)).alloc (.cells #[.int .u8 x.k, .string (str x.t), .int .i64 x.n, .int .i64 x.at_] 92) := ⟨_, rfl⟩
          have l1 : LTk W2 w1.heap.size x := by rw [hW2]; exact (LTk.new w1 x).alloc _
          have l2 : LTk W2 (w1.heap.size + 1) x := by rw [hW2]; exact LTk.at_ (by simp) x
          have hz2 : Two W2 w.heap.size 51 (.int .i32 0) (.int .i32 0) := by rw [hW2]; exact (z.alloc _).alloc _
          have hs2 : W2.heap.size = w1.heap.size + 2 := by rw [hW2]; simp
          have HC1 : Hid (CU W2 R T (k + 1) v1 v2 v3 v4 v5) := Lib.hid (by rw [hW2]; exact (hc1.alloc _).alloc _)
          have HM1 : Hid (Moved w W2 R) := Lib.hid (by rw [hW2]; exact ((HM0.out.trans hm1).alloc _).alloc _)
          have hb1 : w.heap.size ≠ R := by omega
          have hb2 : w1.heap.size ≠ R := by omega
          have hb3 : w1.heap.size + 1 ≠ R := by omega
          have hb4 : w.heap.size < w1.heap.size := by omega
          clear hc1 hm1 hta z
          unfold tkV
          go_wp2_with fail
          rw [← hW2]
          clear hW2
          refine (HSK.out _ HC1.out).mono ?_
          rintro e w3 ⟨rfl, hc3, hm3⟩
          have hs3 := hm3.size
          have l1' := l1.moved hm3 hb2
          have l2' := l2.moved hm3 hb3
          have hz3 := hz2.moved hm3 hb1
          have hS := l1'.cells
          have HC3 := Lib.hid hc3
          have HM3 := Lib.hid (HM1.out.trans hm3)
          clear hm3 hc3 l1 l2 hz2
          obtain ⟨s0, s1, s2, s3⟩ := hS
          go_wp2
          go_region_held3 (fun w' => w'.cell? ⟨w1.heap.size, 0, none⟩ = some (.int .u8 x.k) ∧ w'.cell? ⟨w1.heap.size, 1, none⟩ = some (.string (str x.t)) ∧ w'.cell? ⟨w1.heap.size, 2, none⟩ = some (.int .i64 x.n) ∧ w'.cell? ⟨w1.heap.size, 3, none⟩ = some (.int .i64 x.at_)) (go_keep)
            ((go_at_call 132; refine (HNB.out _ HC3.out.drew).mono ?_; rintro e w4 ⟨rfl, hc4, hm4⟩; (have hS4 := (LTk.drew l1').moved hm4 hb2 |>.cells); obtain ⟨s4, s5, s6, s7⟩ := hS4; (obtain ⟨t0, t1, t2, t3⟩ := ((LTk.drew l2').moved hm4 hb3).cells); (have g0 := ((LTk.drew l2').moved hm4 hb3).frozen 0); (have g1 := ((LTk.drew l2').moved hm4 hb3).frozen 1); (have g2 := ((LTk.drew l2').moved hm4 hb3).frozen 2); (have g3 := ((LTk.drew l2').moved hm4 hb3).frozen 3); (obtain ⟨y0, y1⟩ := ((hz3.drew).moved hm4 hb1).cells); (have y2 := ((hz3.drew).moved hm4 hb1).frozen 0); (have y3 := ((hz3.drew).moved hm4 hb1).frozen 1); (have hs4 := hm4.size); (have h4 : w.heap.size < w4.heap.size := by simp at hs4; omega); (have HC4 := Lib.hid hc4); (have HM4 := Lib.hid (HM3.out.drew.trans hm4)); clear hc4 hm4 hs4; unfold tkV))
          go_wp2
          refine bodyPost_ret (v := pairV (x.n, z.n)) (by simp [results, Tryz.results124, go_sem, pairV, y0, y1]) rfl ⟨k + 1 + 1 + 1, rfl, ?_, HR3.out, ?_⟩
          · exact (HC4.out.far4 (by show R < w1.heap.size + 1; omega) _ _ _ _).far2 (by show R < w.heap.size; omega) _ _
          · exact (HM4.out.fresh4 (by show w.heap.size ≤ w1.heap.size + 1; omega) _ _ _ _).fresh2 (Nat.le_refl _) _ _
      · have hnb := fun W hc => notBelow_kind W R T (k + 1 + 1) v1 v2 v3 v4 v5 z r2 x hc hr2 hzk
        have HNB := Lib.hid hnb
        have hmm : notBelow x (z :: r2) = .error (30, z.at_) := by
          unfold notBelow
          simp only [takeK]
          rw [if_neg (by simpa using hzk)]
        rw [hmm]
        clear h hr hE hr1 hM0 hs hsk hm hr2 hnb hmm hzk hy2 
        go_enter Tryz.func124, Tryz.ntmps124
        go_wp2_with fail
        refine hta.mono ?_
        rintro e w1 ⟨rfl, hc1, hm1⟩
        have z := (Two.new w 51 (.int .i32 0) (.int .i32 0)).moved hm1 (by omega)
        have hs1 := hm1.size
        rw [World.size_alloc] at hs1
        obtain ⟨W2, hW2⟩ : ∃ W2, W2 = (w1.alloc (.cells #[.int .u8 x.k, .string (str x.t), .int .i64 x.n, .int .i64 x.at_] 92)).alloc (.cells #[.int .u8 x.k, .string (str x.t), .int .i64 x.n, .int .i64 x.at_] 92) := ⟨_, rfl⟩
        have l1 : LTk W2 w1.heap.size x := by rw [hW2]; exact (LTk.new w1 x).alloc _
        have l2 : LTk W2 (w1.heap.size + 1) x := by rw [hW2]; exact LTk.at_ (by simp) x
        have hz2 : Two W2 w.heap.size 51 (.int .i32 0) (.int .i32 0) := by rw [hW2]; exact (z.alloc _).alloc _
        have hs2 : W2.heap.size = w1.heap.size + 2 := by rw [hW2]; simp
        have HC1 : Hid (CU W2 R T (k + 1) v1 v2 v3 v4 v5) := Lib.hid (by rw [hW2]; exact (hc1.alloc _).alloc _)
        have HM1 : Hid (Moved w W2 R) := Lib.hid (by rw [hW2]; exact ((HM0.out.trans hm1).alloc _).alloc _)
        have hb1 : w.heap.size ≠ R := by omega
        have hb2 : w1.heap.size ≠ R := by omega
        have hb3 : w1.heap.size + 1 ≠ R := by omega
        have hb4 : w.heap.size < w1.heap.size := by omega
        clear hc1 hm1 hta z
        unfold tkV
        go_wp2_with fail
        rw [← hW2]
        clear hW2
        refine (HSK.out _ HC1.out).mono ?_
        rintro e w3 ⟨rfl, hc3, hm3⟩
        have l1' := l1.moved hm3 hb2
        have HC3 := Lib.hid hc3
        have HM3 := Lib.hid (HM1.out.trans hm3)
        obtain ⟨s0, s1, s2, s3⟩ := l1'.cells
        clear hm3 hc3 l1 l2 hz2
        go_wp2
        go_still_tail 4, (by kernel_rfl)
        change wpList _ _ _ _ _ w3.drew
        go_wp2_with fail
        refine (HNB.out _ HC3.out.drew).mono ?_
        rintro e w4 ⟨rfl, hm4⟩
        exact ⟨rfl, rfl, HM3.out.drew.trans hm4⟩
  · have hta := take1_no _ R T k v1 v2 v3 v4 v5 x r _ rfl 3 (h.alloc (.cells #[.int .i32 0, .int .i32 0] 51)) hr hk
    rw [World.size_alloc] at hta
    have hm : scalL (T.ts.drop k) = .error (30, x.at_) := by
      rw [hr]
      unfold scalL
      simp only [takeK]
      rw [if_neg (by simpa using hk)]
    rw [hm]
    have HM0 := Lib.hid hM0
    clear h hr hE hM0 hm hk
    go_enter Tryz.func124, Tryz.ntmps124
    go_wp2_with fail
    refine hta.mono ?_
    rintro e w1 ⟨rfl, hm1⟩
    exact ⟨rfl, rfl, HM0.out.trans hm1⟩
end
end Go.Proofs.YthaibekbefndlaaGreatDoor.C

namespace Go.Proofs.YthaibekbefndlaaGreatDoor.C
open Go.RowKit

theorem takeK_suf {ks : List Nat} {ts r : List Tok} {x : Tok} (h : takeK ks ts = .ok (x, r)) : ts = x :: r ∧ x.k ∈ ks := by
 cases ts with
 | nil => simp [takeK] at h
 | cons t l =>
  simp only [takeK] at h
  by_cases hk : t.k ∈ ks
  ·rw [if_pos hk] at h
   simp at h
   obtain ⟨rfl, rfl⟩ := h
   exact ⟨rfl, hk⟩
  ·rw [if_neg hk] at h
   cases h
theorem takeT_suf {k : Nat} {s : List UInt8} {ts r : List Tok} {u : Unit} (h : takeT k s ts = .ok (u, r)) : ∃ x, ts = x :: r ∧ x.k = k := by
 cases ts with
 | nil => simp [takeT] at h
 | cons t l =>
  simp only [takeT] at h
  by_cases hk : t.k = k ∧ t.t = s
  ·rw [if_pos hk] at h
   simp at h
   obtain ⟨_, rfl⟩ := h
   exact ⟨t, rfl, hk.1⟩
  ·rw [if_neg hk] at h
   cases h
def Left (ts r : List Tok) : Prop := Ended r ∧ r.length < ts.length ∧ r <:+ ts
theorem Left.trans {a b c : List Tok} (h : Left a b) (k : Left b c) : Left a c := ⟨k.1, Nat.lt_trans k.2.1 h.2.1, k.2.2.trans h.2.2⟩
theorem left_cons {x : Tok} {r : List Tok} (h : Ended (x :: r)) (hk : x.k ≠ 6) : Left (x :: r) r := ⟨h.cons hk, by simp, List.suffix_cons x r⟩
theorem takeK_left {ks : List Nat} {ts r : List Tok} {x : Tok} (hE : Ended ts) (h : takeK ks ts = .ok (x, r)) (h6 : 6 ∉ ks) : Left ts r := by
 obtain ⟨rfl, hk⟩ := takeK_suf h
 exact left_cons hE (fun e => h6 (e ▸ hk))
theorem takeT_left {k : Nat} {s : List UInt8} {ts r : List Tok} {u : Unit} (hE : Ended ts) (h : takeT k s ts = .ok (u, r)) (h6 : k ≠ 6) : Left ts r := by
 obtain ⟨x, rfl, hk⟩ := takeT_suf h
 exact left_cons hE (fun e => h6 (by rw [← hk]; exact e))
theorem sign_left {s : List UInt8} {ts : List Tok} (hE : Ended ts) (h : isSign s ts = true) : Left ts (ts.drop 1) := by
 cases ts with
 | nil => simp [isSign] at h
 | cons x r =>
  have : x.k = 2 ∧ x.t = s := by simpa [isSign] using h
  exact left_cons hE (by omega)
theorem notBelow_left {a x : Tok} {ts r : List Tok} (hE : Ended ts) (h : notBelow a ts = .ok (x, r)) : Left ts r := by
 unfold notBelow at h
 cases ht : takeK [3] ts with
 | error e => rw [ht] at h; cases h
 | ok y =>
  obtain ⟨b, r'⟩ := y
  rw [ht] at h
  simp only at h
  split at h
  ·cases h
  ·simp at h
   obtain ⟨_, rfl⟩ := h
   exact takeK_left hE ht (by simp)
theorem scalL_left {ts r : List Tok} {x : Int × Int} (hE : Ended ts) (h : scalL ts = .ok (x, r)) : Left ts r := by
 unfold scalL at h
 cases ht : takeK [3] ts with
 | error e => rw [ht] at h; cases h
 | ok y =>
  obtain ⟨a, r1⟩ := y
  rw [ht] at h
  simp only at h
  have h1 := takeK_left hE ht (by simp)
  by_cases hs : isSign sThru r1 = true
  ·rw [if_pos hs] at h
   have h2 := sign_left h1.1 hs
   cases hn : notBelow a (r1.drop 1) with
   | error e => rw [hn] at h; cases h
   | ok z =>
    obtain ⟨b, r2⟩ := z
    rw [hn] at h
    simp at h
    obtain ⟨_, rfl⟩ := h
    exact (h1.trans h2).trans (notBelow_left h2.1 hn)
  ·rw [if_neg hs] at h
   simp at h
   obtain ⟨_, rfl⟩ := h
   exact h1
theorem rangeL_left {rs rs' : List (Int × Int)} {ts r : List Tok} (hE : Ended ts) (h : rangeL rs ts = .ok (rs', r)) : Left ts r := by
 rw [rangeL_scal] at h
 cases hs : scalL ts with
 | error e => rw [hs] at h; cases h
 | ok y =>
  obtain ⟨x, r1⟩ := y
  rw [hs] at h
  simp at h
  obtain ⟨_, rfl⟩ := h
  exact scalL_left hE hs
theorem pairL_left {l l' : List (Int × Int)} {ts r : List Tok} (hE : Ended ts) (h : pairL l ts = .ok (l', r)) : Left ts r := by
 unfold pairL at h
 cases h1 : takeT 2 sOpen ts with
 | error e => rw [h1] at h; cases h
 | ok y1 =>
  obtain ⟨u1, r1⟩ := y1
  have k1 := takeT_left hE h1 (by omega)
  rw [h1] at h
  simp only at h
  cases h2 : takeK [3] r1 with
  | error e => rw [h2] at h; cases h
  | ok y2 =>
   obtain ⟨a, r2⟩ := y2
   have k2 := takeK_left k1.1 h2 (by simp)
   rw [h2] at h
   simp only at h
   split at h
   ·cases h
   ·cases h3 : takeT 2 sComma r2 with
    | error e => rw [h3] at h; cases h
    | ok y3 =>
     obtain ⟨u3, r3⟩ := y3
     have k3 := takeT_left k2.1 h3 (by omega)
     rw [h3] at h
     simp only at h
     cases h4 : takeK [3] r3 with
     | error e => rw [h4] at h; cases h
     | ok y4 =>
      obtain ⟨b, r4⟩ := y4
      have k4 := takeK_left k3.1 h4 (by simp)
      rw [h4] at h
      simp only at h
      cases h5 : takeT 2 sShut r4 with
      | error e => rw [h5] at h; cases h
      | ok y5 =>
       obtain ⟨u5, r5⟩ := y5
       have k5 := takeT_left k4.1 h5 (by omega)
       rw [h5] at h
       simp at h
       obtain ⟨_, rfl⟩ := h
       exact (((k1.trans k2).trans k3).trans k4).trans k5
def contL {σ : Type} (item : σ → List Tok → Re σ) (f : Nat) (s : σ) (r : List Tok) : Re σ := if isSign sSemi r then itemsL item f s (r.drop 1) else .ok (s, r)
theorem itemsL_cont {σ : Type} (item : σ → List Tok → Re σ) (f : Nat) (s : σ) (ts : List Tok) : itemsL item (f + 1) s ts = match item s ts with
  | .error e => .error e
  | .ok (s', r) => contL item f s' r := rfl
theorem itemsL_left {σ : Type} (item : σ → List Tok → Re σ) (hi : ∀ s s' ts r, Ended ts → item s ts = .ok (s', r) → Left ts r) : ∀ f s s' ts r, Ended ts → itemsL item f s ts = .ok (s', r) → Left ts r
 | 0, s, s', ts, r, _, h => by cases h
 | f + 1, s, s', ts, r, hE, h => by
  rw [itemsL_cont] at h
  cases h1 : item s ts with
  | error e => rw [h1] at h; cases h
  | ok y =>
   obtain ⟨s1, r1⟩ := y
   have k1 := hi s s1 ts r1 hE h1
   rw [h1] at h
   simp only [contL] at h
   by_cases hs : isSign sSemi r1 = true
   ·rw [if_pos hs] at h
    have k2 := sign_left k1.1 hs
    exact (k1.trans k2).trans (itemsL_left item hi f s1 s' _ r k2.1 h)
   ·rw [if_neg hs] at h
    simp at h
    obtain ⟨rfl, rfl⟩ := h
    exact k1
def ItTold {σ : Type} (T : TV) (I : σ → Nat → World → Prop) (Fin : World → Prop) : Re σ → Ending → World → Prop
 | .ok (s, r), e, w' => ∃ k, e = .returned (.tuple #[]) ∧ I s k w' ∧ T.ts.drop k = r
 | .error er, e, w' => e = .panicked (faultV er.1 er.2) ∧ Fin w'

theorem skips_cu {W W' : World} {R k k' : Nat} {T : TV} {a1 a2 a3 a4 a5 v1 v2 v3 v4 v5 : Value} (h' : CU W' R T k' a1 a2 a3 a4 a5) (h : CU W R T k v1 v2 v3 v4 v5) (hW : CU W R T k a1 a2 a3 a4 a5) : CU W' R T k' v1 v2 v3 v4 v5 := by
 have e := h.1.symm.trans hW.1
 simp at e
 obtain ⟨rfl, rfl, rfl, rfl, rfl⟩ := e
 exact h'

set_option maxRecDepth 100000 in
set_option maxHeartbeats 4000000 in
theorem itemsRange_any {σ : Type} (item : σ → List Tok → Re σ) (w : World) (R : Nat) (T : TV) (k0 : Nat) (V0 V1 : Nat) (s0 : σ) (f0 : Nat) (I : σ → Nat → World → Prop) (Fin : World → Prop)
  (hi : ∀ s s' ts r, Ended ts → item s ts = .ok (s', r) → Left ts r)
  (hcu : ∀ s k W, I s k W → ∃ v1 v2 v3 v4 v5, CU W R T k v1 v2 v3 v4 v5)
  (hgo : ∀ s k W W', I s k W → (∀ v1 v2 v3 v4 v5, CU W R T k v1 v2 v3 v4 v5 → CU W' R T (k + 1) v1 v2 v3 v4 v5) → Moved W W' R → I s (k + 1) W')
  (hbel : ∀ s k W W', I s k W → Below W.heap.size W W' → I s k W')
  (hit : ∀ s k W, I s k W → Ended (T.ts.drop k) → Calls Tryz.prog 123 #[.pointer (some ⟨V0, 0, none⟩), .pointer (some ⟨V1, 0, none⟩)] W (ItTold T I Fin (item s (T.ts.drop k))))
  (h0 : I s0 k0 w) (hE : Ended (T.ts.drop k0)) (hf : (T.ts.drop k0).length ≤ f0) :
  Calls Tryz.prog 122 #[.pointer (some ⟨R, 0, none⟩), .func (.func 123) #[] #[.pointer (some ⟨V0, 0, none⟩), .pointer (some ⟨V1, 0, none⟩)]] w (ItTold T I Fin (itemsL item (f0 + 1) s0 (T.ts.drop k0))) := by
 have hc0 := hit s0 k0 w h0 hE
 rw [itemsL_cont]
 have HI := Lib.hid hi
 have HCU := Lib.hid hcu
 have HGO := Lib.hid hgo
 have HBEL := Lib.hid hbel
 have HIT := Lib.hid hit
 cases h1 : item s0 (T.ts.drop k0) with
 | error er =>
  rw [h1] at hc0
  clear hi hcu hgo hbel hit h0 hE hf h1
  simp only
  go_enter Tryz.func122, Tryz.ntmps122
  go_wp2_with fail
  refine hc0.mono ?_
  rintro e w1 ⟨rfl, hF⟩
  exact ⟨rfl, rfl, hF⟩
 | ok y =>
  obtain ⟨s1, r1⟩ := y
  rw [h1] at hc0
  have hL := hi s0 s1 _ r1 hE h1
  have hlen : r1.length ≤ f0 := by have := hL.2.1; omega
  have HL := Lib.hid hL
  simp only
  obtain ⟨M, hM⟩ : ∃ M, M = contL item f0 s1 r1 := ⟨_, rfl⟩
  rw [← hM]
  have HM := Lib.hid hM
  clear hi hcu hgo hbel hit h0 hE hf h1 hL hM
  go_enter Tryz.func122, Tryz.ntmps122
  go_wp2_with fail
  refine hc0.mono ?_
  rintro e w1 ⟨k1, rfl, hI1, hr1⟩
  have HI1 := Lib.hid hI1
  have HR1 := Lib.hid hr1
  clear hI1 hr1 hc0
  go_wp2
  go_loopg [7] r1.length (fun g _bv wr => ∃ (s : σ) (k f : Nat), Hid (I s k wr) ∧ Hid (M = contL item f s (T.ts.drop k)) ∧ Hid (Ended (T.ts.drop k)) ∧ (T.ts.drop k).length ≤ g ∧ (T.ts.drop k).length ≤ f)
  case atStart => exact ⟨s1, k1, f0, HI1, Lib.hid (by rw [HR1.out]; exact HM.out), Lib.hid (by rw [HR1.out]; exact HL.out.1), by rw [HR1.out]; exact Nat.le_refl _, by rw [HR1.out]; exact hlen⟩
  case round =>
   obtain ⟨s, k, f, HIk, HMk, HEk, hg, hfk⟩ := hrel
   obtain ⟨v1, v2, v3, v4, v5, hcu⟩ := HCU.out s k wr HIk.out
   have HCK := Lib.hid hcu
   obtain ⟨x, r, hx⟩ := HEk.out.some_
   cases hs : isSign sSemi (x :: r) with
   | false =>
    have hsk := skips_no wr R T k v1 v2 v3 v4 v5 x r sSemi hcu hx hs
    have hMk : M = .ok (s, T.ts.drop k) := by
     have := HMk.out
     unfold contL at this
     rw [hx, hs, if_neg (by simp)] at this
     rw [this, hx]
    have HMk2 := Lib.hid hMk
    clear hcu hx hs hMk
    go_wp2_with (go_at_call 130; refine hsk.mono ?_; rintro e w2 ⟨rfl, hb⟩; have HI2 := Lib.hid (HBEL.out s k wr w2 HIk.out hb); clear hb)
    rw [HMk2.out]
    go_end0
    exact ⟨k, rfl, HI2.out, rfl⟩
   | true =>
    have hsk := skips_yes wr R T k v1 v2 v3 v4 v5 x r sSemi hcu hx hs
    have hL2 := sign_left (ts := T.ts.drop k) HEk.out (by rw [hx]; exact hs)
    have hd : (T.ts.drop k).drop 1 = T.ts.drop (k + 1) := by rw [List.drop_drop]
    rw [hd] at hL2
    have hlen2 := hL2.2.1
    obtain ⟨f', rfl⟩ : ∃ f', f = f' + 1 := ⟨f - 1, by omega⟩
    have hMk : M = match item s (T.ts.drop (k + 1)) with
      | .error e => .error e
      | .ok (s', r) => contL item f' s' r := by
     have := HMk.out
     unfold contL at this
     rw [if_pos (by rw [hx]; exact hs), hd, itemsL_cont] at this
     exact this
    have HE2 := Lib.hid hL2.1
    have hit2 := fun W h => HIT.out s (k + 1) W h HE2.out
    cases h2 : item s (T.ts.drop (k + 1)) with
    | error er =>
     rw [h2] at hMk
     have hit3 : ∀ W, I s (k + 1) W → Calls Tryz.prog 123 #[.pointer (some ⟨V0, 0, none⟩), .pointer (some ⟨V1, 0, none⟩)] W (ItTold T I Fin (.error er)) := fun W h => by have := hit2 W h; rwa [h2] at this
     have HIT3 := Lib.hid hit3
     have HMk2 := Lib.hid hMk
     clear hcu hx hs hMk hit2 hit3 h2 hL2 hd
     go_wp2_with (first
      | (go_at_call 130; refine hsk.mono ?_; rintro e w2 ⟨rfl, hc2, hm2⟩; have HI2 := Lib.hid (HGO.out s k wr w2 HIk.out (fun _ _ _ _ _ h => (skips_cu hc2 h HCK.out)) hm2); clear hc2 hm2)
      | (go_at_call 123; refine (HIT3.out _ HI2.out).mono ?_; rintro e w3 ⟨rfl, hF⟩; rw [HMk2.out]))
     exact ⟨rfl, rfl, hF⟩
    | ok y2 =>
     obtain ⟨s2, r2⟩ := y2
     rw [h2] at hMk
     have hit3 : ∀ W, I s (k + 1) W → Calls Tryz.prog 123 #[.pointer (some ⟨V0, 0, none⟩), .pointer (some ⟨V1, 0, none⟩)] W (ItTold T I Fin (.ok (s2, r2))) := fun W h => by have := hit2 W h; rwa [h2] at this
     have hL3 := HI.out s s2 _ r2 HE2.out h2
     have hlen3 := hL3.2.1
     have HE3 := Lib.hid hL3.1
     have HIT3 := Lib.hid hit3
     have HMk2 := Lib.hid hMk
     clear hcu hx hs hMk hit2 hit3 h2 hL2 hd hL3
     go_wp2_with (first
      | (go_at_call 130; refine hsk.mono ?_; rintro e w2 ⟨rfl, hc2, hm2⟩; have HI2 := Lib.hid (HGO.out s k wr w2 HIk.out (fun _ _ _ _ _ h => (skips_cu hc2 h HCK.out)) hm2); clear hc2 hm2)
      | (go_at_call 123; refine (HIT3.out _ HI2.out).mono ?_; rintro e w3 ⟨k3, rfl, hI3, hr3⟩; have HI3 := Lib.hid hI3; have HR3 := Lib.hid hr3; clear hI3 hr3))
     go_roundg r2.length
     case measure => omega
     case rel => exact ⟨s2, k3, f', HI3, Lib.hid (by rw [HR3.out]; exact HMk2.out), Lib.hid (by rw [HR3.out]; exact HE3.out), by rw [HR3.out]; exact Nat.le_refl _, by rw [HR3.out]; omega⟩

set_option maxRecDepth 100000 in
set_option maxHeartbeats 4000000 in
theorem itemsPair_any {σ : Type} (item : σ → List Tok → Re σ) (w : World) (R : Nat) (T : TV) (k0 : Nat) (V0 V1 V2 : Nat) (s0 : σ) (f0 : Nat) (I : σ → Nat → World → Prop) (Fin : World → Prop)
  (hi : ∀ s s' ts r, Ended ts → item s ts = .ok (s', r) → Left ts r)
  (hcu : ∀ s k W, I s k W → ∃ v1 v2 v3 v4 v5, CU W R T k v1 v2 v3 v4 v5)
  (hgo : ∀ s k W W', I s k W → (∀ v1 v2 v3 v4 v5, CU W R T k v1 v2 v3 v4 v5 → CU W' R T (k + 1) v1 v2 v3 v4 v5) → Moved W W' R → I s (k + 1) W')
  (hbel : ∀ s k W W', I s k W → Below W.heap.size W W' → I s k W')
  (hit : ∀ s k W, I s k W → Ended (T.ts.drop k) → Calls Tryz.prog 127 #[.pointer (some ⟨V0, 0, none⟩), .pointer (some ⟨V1, 0, none⟩), .pointer (some ⟨V2, 0, none⟩)] W (ItTold T I Fin (item s (T.ts.drop k))))
  (h0 : I s0 k0 w) (hE : Ended (T.ts.drop k0)) (hf : (T.ts.drop k0).length ≤ f0) :
  Calls Tryz.prog 122 #[.pointer (some ⟨R, 0, none⟩), .func (.func 127) #[] #[.pointer (some ⟨V0, 0, none⟩), .pointer (some ⟨V1, 0, none⟩), .pointer (some ⟨V2, 0, none⟩)]] w (ItTold T I Fin (itemsL item (f0 + 1) s0 (T.ts.drop k0))) := by
 have hc0 := hit s0 k0 w h0 hE
 rw [itemsL_cont]
 have HI := Lib.hid hi
 have HCU := Lib.hid hcu
 have HGO := Lib.hid hgo
 have HBEL := Lib.hid hbel
 have HIT := Lib.hid hit
 cases h1 : item s0 (T.ts.drop k0) with
 | error er =>
  rw [h1] at hc0
  clear hi hcu hgo hbel hit h0 hE hf h1
  simp only
  go_enter Tryz.func122, Tryz.ntmps122
  go_wp2_with fail
  refine hc0.mono ?_
  rintro e w1 ⟨rfl, hF⟩
  exact ⟨rfl, rfl, hF⟩
 | ok y =>
  obtain ⟨s1, r1⟩ := y
  rw [h1] at hc0
  have hL := hi s0 s1 _ r1 hE h1
  have hlen : r1.length ≤ f0 := by have := hL.2.1; omega
  have HL := Lib.hid hL
  simp only
  obtain ⟨M, hM⟩ : ∃ M, M = contL item f0 s1 r1 := ⟨_, rfl⟩
  rw [← hM]
  have HM := Lib.hid hM
  clear hi hcu hgo hbel hit h0 hE hf h1 hL hM
  go_enter Tryz.func122, Tryz.ntmps122
  go_wp2_with fail
  refine hc0.mono ?_
  rintro e w1 ⟨k1, rfl, hI1, hr1⟩
  have HI1 := Lib.hid hI1
  have HR1 := Lib.hid hr1
  clear hI1 hr1 hc0
  go_wp2
  go_loopg [7] r1.length (fun g _bv wr => ∃ (s : σ) (k f : Nat), Hid (I s k wr) ∧ Hid (M = contL item f s (T.ts.drop k)) ∧ Hid (Ended (T.ts.drop k)) ∧ (T.ts.drop k).length ≤ g ∧ (T.ts.drop k).length ≤ f)
  case atStart => exact ⟨s1, k1, f0, HI1, Lib.hid (by rw [HR1.out]; exact HM.out), Lib.hid (by rw [HR1.out]; exact HL.out.1), by rw [HR1.out]; exact Nat.le_refl _, by rw [HR1.out]; exact hlen⟩
  case round =>
   obtain ⟨s, k, f, HIk, HMk, HEk, hg, hfk⟩ := hrel
   obtain ⟨v1, v2, v3, v4, v5, hcu⟩ := HCU.out s k wr HIk.out
   have HCK := Lib.hid hcu
   obtain ⟨x, r, hx⟩ := HEk.out.some_
   cases hs : isSign sSemi (x :: r) with
   | false =>
    have hsk := skips_no wr R T k v1 v2 v3 v4 v5 x r sSemi hcu hx hs
    have hMk : M = .ok (s, T.ts.drop k) := by
     have := HMk.out
     unfold contL at this
     rw [hx, hs, if_neg (by simp)] at this
     rw [this, hx]
    have HMk2 := Lib.hid hMk
    clear hcu hx hs hMk
    go_wp2_with (go_at_call 130; refine hsk.mono ?_; rintro e w2 ⟨rfl, hb⟩; have HI2 := Lib.hid (HBEL.out s k wr w2 HIk.out hb); clear hb)
    rw [HMk2.out]
    go_end0
    exact ⟨k, rfl, HI2.out, rfl⟩
   | true =>
    have hsk := skips_yes wr R T k v1 v2 v3 v4 v5 x r sSemi hcu hx hs
    have hL2 := sign_left (ts := T.ts.drop k) HEk.out (by rw [hx]; exact hs)
    have hd : (T.ts.drop k).drop 1 = T.ts.drop (k + 1) := by rw [List.drop_drop]
    rw [hd] at hL2
    have hlen2 := hL2.2.1
    obtain ⟨f', rfl⟩ : ∃ f', f = f' + 1 := ⟨f - 1, by omega⟩
    have hMk : M = match item s (T.ts.drop (k + 1)) with
      | .error e => .error e
      | .ok (s', r) => contL item f' s' r := by
     have := HMk.out
     unfold contL at this
     rw [if_pos (by rw [hx]; exact hs), hd, itemsL_cont] at this
     exact this
    have HE2 := Lib.hid hL2.1
    have hit2 := fun W h => HIT.out s (k + 1) W h HE2.out
    cases h2 : item s (T.ts.drop (k + 1)) with
    | error er =>
     rw [h2] at hMk
     have hit3 : ∀ W, I s (k + 1) W → Calls Tryz.prog 127 #[.pointer (some ⟨V0, 0, none⟩), .pointer (some ⟨V1, 0, none⟩), .pointer (some ⟨V2, 0, none⟩)] W (ItTold T I Fin (.error er)) := fun W h => by have := hit2 W h; rwa [h2] at this
     have HIT3 := Lib.hid hit3
     have HMk2 := Lib.hid hMk
     clear hcu hx hs hMk hit2 hit3 h2 hL2 hd
     go_wp2_with (first
      | (go_at_call 130; refine hsk.mono ?_; rintro e w2 ⟨rfl, hc2, hm2⟩; have HI2 := Lib.hid (HGO.out s k wr w2 HIk.out (fun _ _ _ _ _ h => (skips_cu hc2 h HCK.out)) hm2); clear hc2 hm2)
      | (go_at_call 127; refine (HIT3.out _ HI2.out).mono ?_; rintro e w3 ⟨rfl, hF⟩; rw [HMk2.out]))
     exact ⟨rfl, rfl, hF⟩
    | ok y2 =>
     obtain ⟨s2, r2⟩ := y2
     rw [h2] at hMk
     have hit3 : ∀ W, I s (k + 1) W → Calls Tryz.prog 127 #[.pointer (some ⟨V0, 0, none⟩), .pointer (some ⟨V1, 0, none⟩), .pointer (some ⟨V2, 0, none⟩)] W (ItTold T I Fin (.ok (s2, r2))) := fun W h => by have := hit2 W h; rwa [h2] at this
     have hL3 := HI.out s s2 _ r2 HE2.out h2
     have hlen3 := hL3.2.1
     have HE3 := Lib.hid hL3.1
     have HIT3 := Lib.hid hit3
     have HMk2 := Lib.hid hMk
     clear hcu hx hs hMk hit2 hit3 h2 hL2 hd hL3
     go_wp2_with (first
      | (go_at_call 130; refine hsk.mono ?_; rintro e w2 ⟨rfl, hc2, hm2⟩; have HI2 := Lib.hid (HGO.out s k wr w2 HIk.out (fun _ _ _ _ _ h => (skips_cu hc2 h HCK.out)) hm2); clear hc2 hm2)
      | (go_at_call 127; refine (HIT3.out _ HI2.out).mono ?_; rintro e w3 ⟨k3, rfl, hI3, hr3⟩; have HI3 := Lib.hid hI3; have HR3 := Lib.hid hr3; clear hI3 hr3))
     go_roundg r2.length
     case measure => omega
     case rel => exact ⟨s2, k3, f', HI3, Lib.hid (by rw [HR3.out]; exact HMk2.out), Lib.hid (by rw [HR3.out]; exact HE3.out), by rw [HR3.out]; exact Nat.le_refl _, by rw [HR3.out]; omega⟩
end Go.Proofs.YthaibekbefndlaaGreatDoor.C

namespace Go.Proofs.YthaibekbefndlaaGreatDoor.C
open Go.RowKit

theorem pair_new (w : World) (k : Nat) (a b : Value) (t : TypeId) (hk : w.heap.size = k) : ∀ j u, [a, b][j]? = some u → (w.alloc (.cells #[a, b] t)).cell? ((⟨k, 0, none⟩ : Addr).add j) = some u := by
 subst hk
 intro j u hu
 rw [add_plain, Nat.zero_add, World.cell?_alloc_new]
 simpa using hu
theorem infoRange : (Tryz.prog.info? 51).map (fun i => (i.zero, i.size, i.bytes)) = some (some (.agg #[.int .i32 0, .int .i32 0]), 2, 8) := by kernel_rfl
def prsC (l : List (Int × Int)) : List Value := l.flatMap fun x => [.int .i32 x.1, .int .i32 x.2]
theorem prsC_snoc (l : List (Int × Int)) (x : Int × Int) : prsC (l ++ [x]) = prsC l ++ [.int .i32 x.1, .int .i32 x.2] := by simp [prsC]
def One (w : World) (b : Nat) (t : TypeId) (v : Value) : Prop := w.heap[b]? = some (.cells #[v] t (0, 0))
theorem One.cell {w : World} {b : Nat} {t : TypeId} {v : Value} (h : One w b t v) : w.cell? ⟨b, 0, none⟩ = some v := by simp [World.cell?, show w.heap[b]? = _ from h]
theorem One.lt {w : World} {b : Nat} {t : TypeId} {v : Value} (h : One w b t v) : b < w.heap.size := (Array.getElem?_eq_some_iff.1 h).1
theorem One.kept {w w' : World} {row : Option Nat} {b : Nat} {t : TypeId} {v : Value} (h : One w b t v) (hg : w.grownBy w' row) (hne : some b ≠ row) : One w' b t v := (hg.block b h.lt hne).trans h
theorem One.alloc {w : World} {b : Nat} {t : TypeId} {v : Value} (h : One w b t v) (o : Obj) : One (w.alloc o) b t v := (Below.heap_alloc w o b h.lt).trans h
theorem One.far {w : World} {b : Nat} {t : TypeId} {v : Value} (h : One w b t v) {p : Addr} (hp : b ≠ p.block) (u : Value) : One (w.setCell p u) b t v := (Below.heap_setCell w p u b hp).trans h
theorem Two.kept {w w' : World} {row : Option Nat} {b : Nat} {t : TypeId} {u v : Value} (h : Two w b t u v) (hg : w.grownBy w' row) (hne : some b ≠ row) : Two w' b t u v := (hg.block b h.lt hne).trans h
theorem CU.kept {w w' : World} {row : Option Nat} {R k : Nat} {T : TV} {v1 v2 v3 v4 v5 : Value} (h : CU w R T k v1 v2 v3 v4 v5) (hg : w.grownBy w' row) (hr : ∀ g, row = some g → R < g) : CU w' R T k v1 v2 v3 v4 v5 := by
 have hlt := h.lt
 obtain ⟨h1, h2, h3⟩ := h
 refine ⟨(hg.block R hlt (fun e => by have := hr R e.symm; omega)).trans h1, h2.keep fun p hp => World.cell?_of_block (hg.block p.block (by omega) (fun e => by have := hr _ e.symm; omega)), h3⟩
theorem Moved.kept {a w w' : World} {R : Nat} {row : Option Nat} (h : Moved a w R) (hg : w.grownBy w' row) (hr : ∀ g, row = some g → a.heap.size ≤ g) : Moved a w' R :=
 ⟨hg.os.trans h.os, hg.tape.trans h.tape, hg.output.trans h.output, Nat.le_trans h.size hg.size, fun j hj hne => (hg.block j (Nat.lt_of_lt_of_le hj h.size) (fun e => by have := hr j e.symm; omega)).trans (h.block j hj hne)⟩

def RgI (w0 : World) (R : Nat) (T : TV) (v1 v2 v3 v4 v5 : Value) (C Rb : Nat) (nm : Value) (rs : List (Int × Int)) (k : Nat) (w : World) : Prop :=
 CU w R T k v1 v2 v3 v4 v5 ∧ (∃ v, Two w C 47 nm v ∧ w.ownsRow w0.heap.size 51 2 v rs.length (prsC rs)) ∧ One w Rb 88 (.pointer (some ⟨R, 0, none⟩)) ∧ Moved w0 w R
section
variable (w0 : World) (R : Nat) (T : TV) (v1 v2 v3 v4 v5 : Value) (C Rb : Nat) (nm : Value)
theorem RgI.go {w0 : World} {R : Nat} {T : TV} {v1 v2 v3 v4 v5 : Value} {C Rb : Nat} {nm : Value} {rs : List (Int × Int)} {k k' : Nat} {W W' : World} (h : RgI w0 R T v1 v2 v3 v4 v5 C Rb nm rs k W) (hc : CU W' R T k' v1 v2 v3 v4 v5) (hm : Moved W W' R) (hC : C ≠ R) (hRb : Rb ≠ R) : RgI w0 R T v1 v2 v3 v4 v5 C Rb nm rs k' W' := by
 obtain ⟨h1, ⟨v, h2, h3⟩, h4, h5⟩ := h
 refine ⟨hc, ⟨v, h2.moved hm hC, h3.kept hm (.inr ?_)⟩, h4.kept hm (by simpa using hRb), h5.trans hm⟩
 exact fun e => row_ne h3 h1.1 (by decide) e
theorem RgI.below {w0 : World} {R : Nat} {T : TV} {v1 v2 v3 v4 v5 : Value} {C Rb : Nat} {nm : Value} {rs : List (Int × Int)} {k : Nat} {W W' : World} (h : RgI w0 R T v1 v2 v3 v4 v5 C Rb nm rs k W) (hb : Below W.heap.size W W') (hC : C ≠ R) (hRb : Rb ≠ R) : RgI w0 R T v1 v2 v3 v4 v5 C Rb nm rs k W' := h.go (h.1.next hb) (.of_below hb) hC hRb

theorem Two.set1 {w : World} {b : Nat} {t : TypeId} {u v : Value} (h : Two w b t u v) (x : Value) : Two (w.setCell ⟨b, 1, none⟩ x) b t u x := by
 obtain ⟨hlt, hk⟩ := Array.getElem?_eq_some_iff.1 h
 show (w.heap.modify b _)[b]? = _
 rw [Array.getElem?_eq_getElem (by rw [Array.size_modify]; exact hlt), Array.getElem_modify_self, hk]
 rfl
theorem rg_done {w0 w1 w2 : World} {R k1 C Rb g cap : Nat} {T : TV} {v1 v2 v3 v4 v5 nm v : Value} (rs : List (Int × Int)) (x : Int × Int) {o : Obj} (hc : CU w1 R T k1 v1 v2 v3 v4 v5) (ho1 : w1.ownsRow w0.heap.size 51 2 v rs.length (prsC rs))
  (hv : Two w2 C 47 nm v) (hone : One w2 Rb 88 (.pointer (some ⟨R, 0, none⟩))) (ho : w2.ownsRow w0.heap.size 51 2 (.slice (some ⟨g, 0, none⟩) (rs.length + 1) cap) (rs.length + 1) (prsC rs ++ [.int .i32 x.1, .int .i32 x.2]))
  (hg : (w1.alloc o).grownBy w2 v.ownBlock) (hm : Moved w0 w1 R) (hC : w0.heap.size ≤ C) (hRb : Rb < w0.heap.size) (hR : R < w0.heap.size) :
  RgI w0 R T v1 v2 v3 v4 v5 C Rb nm (rs ++ [x]) k1 (w2.setCell ⟨C, 1, none⟩ (.slice (some ⟨g, 0, none⟩) (rs.length + 1) cap)) := by
 have hrow : ∀ b, v.ownBlock = some b → w0.heap.size ≤ b := fun b e => (ho1.lt b e).1
 refine ⟨((hc.alloc o).kept hg (fun b e => by have := hrow b e; omega)).far (p := ⟨C, 1, none⟩) (by show R < C; omega) _, ⟨_, hv.set1 _, ?_⟩, hone.far (p := ⟨C, 1, none⟩) (by show Rb ≠ C; omega) _, ((hm.alloc o).kept hg hrow).fresh (p := ⟨C, 1, none⟩) hC _⟩
 have hne := row_ne ho hv (by decide)
 have := ho.kept (Lib.grownBy_setCell w2 C 1 (.slice (some ⟨g, 0, none⟩) (rs.length + 1) cap)) (.inr hne)
 rw [List.length_append, prsC_snoc]
 exact this

set_option maxRecDepth 100000 in
set_option maxHeartbeats 4000000 in
theorem rangeItem_any (w : World) (rs : List (Int × Int)) (k : Nat) (h : RgI w0 R T v1 v2 v3 v4 v5 C Rb nm rs k w) (hN : NumOk T) (hE : Ended (T.ts.drop k)) (hC : w0.heap.size ≤ C) (hRb : Rb < w0.heap.size) (hRR : Rb ≠ R) (hR : R < w0.heap.size) (hrs : rs.length ≤ 2000) :
  Calls Tryz.prog 123 #[.pointer (some ⟨C, 0, none⟩), .pointer (some ⟨Rb, 0, none⟩)] w (ItTold T (RgI w0 R T v1 v2 v3 v4 v5 C Rb nm) (fun w' => Moved w0 w' R) (rangeL rs (T.ts.drop k))) := by
 have H := Lib.hid h
 obtain ⟨hcu, ⟨v, hv, hown⟩, hone, hmv⟩ := h
 obtain ⟨_, q1⟩ := hv.cells
 have q2 := hone.cell
 have hsc := fun W hc => scalars_any W R T k v1 v2 v3 v4 v5 hc hN hE
 have HSC := Lib.hid hsc
 have HCU := Lib.hid hcu
 rw [rangeL_scal]
 cases hs : scalL (T.ts.drop k) with
 | error er =>
  have hsc2 : ∀ W, CU W R T k v1 v2 v3 v4 v5 → Calls Tryz.prog 124 #[.pointer (some ⟨R, 0, none⟩)] W (ReTold W R T v1 v2 v3 v4 v5 pairV (.error er)) := fun W hc => by have := HSC.out W hc; rwa [hs] at this
  have HSC2 := Lib.hid hsc2
  have HMV := Lib.hid hmv
  clear hsc hv hown hone hcu hs hmv hsc2
  simp only
  go_enter Tryz.func123, Tryz.ntmps123
  go_wp2
  go_region_with ((go_at_call 124; refine (HSC2.out _ HCU.out.drew).mono ?_; rintro e w4 ⟨rfl, hm4⟩; (suffices _hh : wpAny Tryz.prog .any #[] (fun _ _ _ => True) 0 #[] ⟨#[], []⟩ w4 from ⟨rfl, rfl, HMV.out.drew.trans hm4⟩)))
  all_goals exact True.intro
 | ok y =>
  obtain ⟨x, r⟩ := y
  have hsc2 : Calls Tryz.prog 124 #[.pointer (some ⟨R, 0, none⟩)] w.drew (ReTold w.drew R T v1 v2 v3 v4 v5 pairV (.ok (x, r))) := by have := HSC.out w.drew hcu.drew; rwa [hs] at this
  have HV : Hid (Two w.drew C 47 nm v) := Lib.hid hv
  have HOWN : Hid (w.drew.ownsRow w0.heap.size 51 2 v rs.length (prsC rs)) := Lib.hid hown
  have HONE : Hid (One w.drew Rb 88 (.pointer (some ⟨R, 0, none⟩))) := Lib.hid hone
  have hCR : C ≠ R := by omega
  have hRR' : some Rb ≠ some R := by simpa using hRR
  have HNE := Lib.hid (row_ne hown hcu.1 (by decide))
  have HNC := Lib.hid (row_ne hown hv (by decide)).symm
  have HNR := Lib.hid (row_ne hown hone (by decide)).symm
  have hsz := hmv.size
  have HMV := Lib.hid hmv
  clear hsc hv hown hone hcu hs hmv
  simp only
  obtain ⟨i0, hi, hz0, hz1, hz2⟩ := info_parts infoRange
  go_enter Tryz.func123, Tryz.ntmps123
  go_wp2
  go_region_law
   ((first
    | (go_simp; go_at_call 124; refine hsc2.mono ?_; rintro e w1 ⟨k1, rfl, hc1, hr1, hm1⟩; (have HV1 := Lib.hid (HV.out.moved hm1 hCR)); (have p1 := HV1.out.cells.2); (have HONE1 := Lib.hid (HONE.out.kept hm1 hRR')); (have p2 := HONE1.out.cell); (have hlC := HV1.out.lt); (have hlR := HONE1.out.lt); (have hs1 := hm1.size); (have hs1' : w0.heap.size ≤ w1.heap.size := by have := hs1; simp at this; omega); (have HOWN1 := Lib.hid (HOWN.out.kept hm1 (.inr HNE.out))); (have HC1 := Lib.hid hc1); (have HR1 := Lib.hid hr1); (have HM1 := Lib.hid hm1); clear hc1 hr1 hm1; unfold pairV; go_simp)
    | (refine step_append_lies _ (by rfl) _ _ _ (by rfl) w0.heap.size 51 i0 (.agg #[.int .i32 0, .int .i32 0]) 2 8 Tryz.underlying45 hi hz0 hz1 hz2 rfl (by decide) v rs.length (prsC rs) (by rfl) (HOWN1.out.alloc _) ⟨w1.heap.size, 0, none⟩ 1 1 [.int .i32 x.1, .int .i32 x.2] (by rfl) (by rfl) (pair_new _ _ _ _ _ (by simp)) (by intro u hu; simp at hu; rcases hu with rfl | rfl <;> rfl) (by omega) (by unfold maxLen; omega) (by omega) (by simp; omega) (w1.heap.size + 1) (by simp) ?_; intro g cap w2 hown2 hgrow hat hlt2; (have HV2 := Lib.hid ((HV1.out.alloc (.cells #[.int .i32 x.1, .int .i32 x.2] 51)).kept hgrow HNC.out)); (have HONE2 := Lib.hid ((HONE1.out.alloc (.cells #[.int .i32 x.1, .int .i32 x.2] 51)).kept hgrow HNR.out)); (have p3 := HV2.out.cells.2); (have p4 := HONE2.out.cell); (have p5 := HV2.out.frozen 1); (have HOWN2 := Lib.hid hown2); (have HGR := Lib.hid hgrow); (have HAT := Lib.hid hat); clear hown2 hgrow hat)))
  all_goals
   go_end0
   exact ⟨k1, rfl, rg_done rs x HC1.out HOWN1.out HV2.out HONE2.out HOWN2.out HGR.out (HMV.out.drew.trans HM1.out) hC hRb hR, HR1.out⟩
end
end Go.Proofs.YthaibekbefndlaaGreatDoor.C

namespace Go.Proofs.YthaibekbefndlaaGreatDoor.C
open Go.RowKit

section
variable {P : Program} {ops : Array Oper} {Q : Exit → Act → World → Prop} {md : Region.Mode} {S : World → Prop}
def wpAnyE (P : Program) (md : Region.Mode) (ops : Array Oper) (Q : Exit → Act → World → Prop) (S : World → Prop) (L : Nat) : Nat → Array Bool → Act → World → Prop
 | 0, listed, a, w => Region.ready md ops listed = [] ∧ Q .normal a w
 | fuel + 1, listed, a, w =>
  (Region.ready md ops listed = [] → Q .normal a w) ∧
  ∀ i ∈ Region.ready md ops listed, wpOp P ops Q i (fun a' w' => (i ≠ L → S w') ∧ wpAnyE P md ops Q S L fuel (listed.setIfInBounds i true) a' w') a w
theorem wpAny_of_E {L : Nat} : ∀ (fuel : Nat) (listed : Array Bool) (a : Act) (w : World), wpAnyE P md ops Q S L fuel listed a w → wpAny P md ops Q fuel listed a w
 | 0, _, _, _, h => h
 | fuel + 1, _, _, _, h => ⟨h.1, fun i hi => wpOp_mono (fun a' w' h' => wpAny_of_E fuel _ a' w' h'.2) (h.2 i hi)⟩
def waitsFor (md : Region.Mode) (ops : Array Oper) (L i : Nat) : Bool := match ops[L]? with
 | some o => o.after.any fun e => Region.binds md e && (e.on == i)
 | none => false
theorem wpAnyE_first {L i : Nat} {oi : Oper} {v : Value} (hi : ops[i]? = some oi) (hsel : ∀ (j : Nat) (o : Oper) cs b, ops[j]? = some o → o.op ≠ .select cs b) (hL : waitsFor md ops L i = true)
  (hQ : ∀ c a w, Q (.panic c) (a.put oi.dst v) w → Q (.panic c) a w) :
  ∀ (fuel : Nat) (listed : Array Bool) (a : Act) (w : World),
   (∀ j oj, ops[j]? = some oj → j ≠ i → listed.getD j true = false → (∀ e ∈ oj.after, Region.binds md e = true → e.on ≠ i) → oi.apart ops oj = true) →
   i ∈ Region.ready md ops listed → YieldsIf P ops S oi v a → S w →
   wpAnyE P md ops Q S L fuel (listed.setIfInBounds i true) (a.put oi.dst v) w → wpAnyE P md ops Q S L (fuel + 1) listed a w := by
 intro fuel
 induction fuel with
 | zero =>
  intro listed a w _ hr hy hS H
  refine ⟨fun h => (by rw [h] at hr; cases hr), fun j hj => ?_⟩
  by_cases hji : j = i
  ·subst hji; exact hy.wpOp hi hS ⟨fun _ => hS, H⟩
  ·have := ready_mono hj hji
   rw [H.1] at this
   cases this
 | succ fuel ih =>
  intro listed a w hfree hr hy hS H
  refine ⟨fun h => (by rw [h] at hr; cases hr), fun j hj => ?_⟩
  by_cases hji : j = i
  ·subst hji; exact hy.wpOp hi hS ⟨fun _ => hS, H⟩
  ·have h1 := H.2 j (ready_mono hj hji)
   obtain ⟨hjun, oj, hoj, hall⟩ := mem_ready.1 hj
   have hnot : ∀ e ∈ oj.after, Region.binds md e = true → e.on ≠ i := fun e he hb heq => by
    have h1 := hall e he hb
    have h0 := (mem_ready.1 hr).1
    rw [heq] at h1
    rcases Nat.lt_or_ge i listed.size with h' | h'
    ·simp [h'] at h0 h1; rw [h0] at h1; cases h1
    ·simp [Array.getElem?_eq_none h'] at h1
   have hjL : j ≠ L := by
    rintro rfl
    unfold waitsFor at hL
    rw [hoj] at hL
    simp only [Array.any_eq_true] at hL
    obtain ⟨q, hq, he⟩ := hL
    simp only [Bool.and_eq_true, beq_iff_eq] at he
    exact hnot _ (Array.getElem_mem hq) he.1 he.2
   have h2 := wpOp_putIf hoj (hfree j oj hoj hji hjun hnot) (fun cs b => hsel i oi cs b hi) (fun cs b => hsel j oj cs b hoj) hQ hy h1
   have hfree' : ∀ k ok, ops[k]? = some ok → k ≠ i → (listed.setIfInBounds j true).getD k true = false →
     (∀ e ∈ ok.after, Region.binds md e = true → e.on ≠ i) → oi.apart ops ok = true := fun k ok hk hki hun hno => by
    refine hfree k ok hk hki ?_ hno
    by_cases hjk : j = k
    ·subst hjk; exact hjun
    ·rw [getD_set_ne true hjk] at hun; exact hun
   refine wpOp_mono (fun a' w' h3 => ⟨fun _ => h3.2.1 hjL, ih (listed.setIfInBounds j true) a' w' hfree' (ready_mono hr (Ne.symm hji)) h3.1 (h3.2.1 hjL) ?_⟩) h2
   rw [Array.setIfInBounds_comm _ _ hji]
   exact h3.2.2
theorem wpAnyE_take {L i : Nat} {oi : Oper} {v : Value} {fuel : Nat} {listed : Array Bool} {a : Act} {w : World} (hi : ops[i]? = some oi)
  (hs : Region.noSelect ops = true) (hf : Region.free md ops listed i = true) (hr : (Region.ready md ops listed).contains i = true) (hL : waitsFor md ops L i = true)
  (hQ : ∀ c a w, Q (.panic c) (a.put oi.dst v) w → Q (.panic c) a w) (hy : YieldsIf P ops S oi v a) (hS : S w)
  (h : wpAnyE P md ops Q S L fuel (listed.setIfInBounds i true) (a.put oi.dst v) w) : wpAnyE P md ops Q S L (fuel + 1) listed a w :=
 wpAnyE_first hi (Region.noSelect_spec hs) hL hQ fuel listed a w (Region.free_spec hi hf) (by simpa using hr) hy hS h
theorem wpAnyE_one {L i : Nat} {o : Oper} {fuel : Nat} {listed : Array Bool} {a : Act} {w : World} (hr : Region.ready md ops listed = [i]) (ho : ops[i]? = some o)
  (h : ∀ K : Act → World → Prop, Hid (∀ a' w', (i ≠ L → S w') → ((i ≠ L → S w') → wpAnyE P md ops Q S L fuel (listed.setIfInBounds i true) a' w') → K a' w') →
   if Region.wanted o (yielded ops a.tmps) = true then Oper.wp P o a w K Q else K (a.put o.dst undef) w) : wpAnyE P md ops Q S L (fuel + 1) listed a w := by
 refine ⟨fun h0 => (by rw [hr] at h0; cases h0), fun j hj => ?_⟩
 rw [hr, List.mem_singleton] at hj
 subst hj
 have h1 := h (fun a' w' => (j ≠ L → S w') ∧ wpAnyE P md ops Q S L fuel (listed.setIfInBounds j true) a' w') (Lib.hid fun a' w' hs hh => ⟨hs, hh hs⟩)
 unfold wpOp
 simp only [ho]
 split
 ·rename_i hw
  rw [if_pos hw] at h1
  exact .inl h1
 ·rename_i hw
  rw [if_neg hw] at h1
  exact h1
theorem wpAnyE_done {L : Nat} {listed : Array Bool} {a : Act} {w : World} (hr : Region.ready md ops listed = []) (h : Q .normal a w) : ∀ fuel, wpAnyE P md ops Q S L fuel listed a w
 | 0 => ⟨hr, h⟩
 | _ + 1 => ⟨fun _ => h, by rw [hr]; simp⟩
theorem wp_region_E {L id : Nat} {a : Act} {w : World} (hm : P.follows .mixedOrders = true)
  (h : wpAnyE P .any ops Q S L ops.size (Array.replicate ops.size false) a w.drew) : (Code.region id ops true).wp P Q a w :=
 wp_region_any hm (wpAny_of_E _ _ _ _ h)
end
end Go.Proofs.YthaibekbefndlaaGreatDoor.C
