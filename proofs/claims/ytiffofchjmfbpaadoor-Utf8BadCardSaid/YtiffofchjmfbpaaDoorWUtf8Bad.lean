/-
  The walk of Utf8Bad: for every two choices it returns true; nothing that was there changes. Condition: the decoder's two tables stand as they were laid.
-/
import Derived.Test.YtiffofchjmfbpaaDoorUtfI
namespace Go.Proofs.YtiffofchjmfbpaaDoor.C
open Go.RowKit
open Go.Lib (decodeN)

/-- a row of bytes that is no sequence at any place -/
def BadRow (r : List Int) : Prop := Bd r ∧ r.length ≤ 4 ∧ ofL (sb r) = r.map fun z => -1 - z
theorem bad2 {x y : Int} (hx : (192 ≤ x ∧ x ≤ 193) ∨ (245 ≤ x ∧ x ≤ 255)) (hy : 128 ≤ y ∧ y ≤ 191) : BadRow [x, y] := by
  have hb : Bd [x, y] := bd_cons (by omega) (bd_cons (by omega) bd_nil)
  refine ⟨hb, by simp, of_bad hb fun pos hp => ?_⟩
  have : pos = 0 ∨ pos = 1 := by simp at hp; omega
  rcases this with rfl | rfl
  all_goals
    unfold decodeN nb
    simp
    repeat' split
    all_goals first | rfl | (exfalso; omega) | omega
theorem bad3 {x y z : Int} (hx : (x = 224 ∧ 128 ≤ y ∧ y ≤ 159) ∨ (x = 237 ∧ 160 ≤ y ∧ y ≤ 191)) (hz : 128 ≤ z ∧ z ≤ 191) : BadRow [x, y, z] := by
  have hb : Bd [x, y, z] := bd_cons (by omega) (bd_cons (by omega) (bd_cons (by omega) bd_nil))
  refine ⟨hb, by simp, of_bad hb fun pos hp => ?_⟩
  have : pos = 0 ∨ pos = 1 ∨ pos = 2 := by simp at hp; omega
  rcases this with rfl | rfl | rfl
  all_goals
    unfold decodeN nb
    simp
    repeat' split
    all_goals first | rfl | (exfalso; omega) | omega
theorem bad4 {x y z : Int} (hx : (x = 240 ∧ 128 ≤ y ∧ y ≤ 143) ∨ (x = 244 ∧ 144 ≤ y ∧ y ≤ 191)) (hz : 128 ≤ z ∧ z ≤ 191) : BadRow [x, y, z, 128] := by
  have hb : Bd [x, y, z, 128] := bd_cons (by omega) (bd_cons (by omega) (bd_cons (by omega) (bd_cons (by omega) bd_nil)))
  refine ⟨hb, by simp, of_bad hb fun pos hp => ?_⟩
  have : pos = 0 ∨ pos = 1 ∨ pos = 2 ∨ pos = 3 := by simp at hp; omega
  rcases this with rfl | rfl | rfl | rfl
  all_goals
    unfold decodeN nb
    simp
    repeat' split
    all_goals first | rfl | (exfalso; omega) | omega
/-- the six rows -/
def badRows (a b : Int) : List (List Int) :=
  [[192 + a % 2, 128 + b % 64], [224, 128 + a % 32, 128 + b % 64], [237, 160 + a % 32, 128 + b % 64], [240, 128 + a % 16, 128 + b % 64, 128], [244, 144 + a % 48, 128 + b % 64, 128], [245 + a % 11, 128 + b % 64]]
theorem badRows_bad (a b : Int) : ∀ r ∈ badRows a b, BadRow r := by
  intro r hr
  simp only [badRows, List.mem_cons, List.not_mem_nil, or_false] at hr
  rcases hr with rfl | rfl | rfl | rfl | rfl | rfl
  · exact bad2 (by omega) (by omega)
  · exact bad3 (by omega) (by omega)
  · exact bad3 (by omega) (by omega)
  · exact bad4 (by omega) (by omega)
  · exact bad4 (by omega) (by omega)
  · exact bad2 (by omega) (by omega)
/-- the rows lie there, and a row of their slices behind them -/
def BadSt (w : World) (rows : List (List Int)) (wr : World) : Prop :=
  ∀ k r, rows[k]? = some r → wr.cell? ⟨w.heap.size + 6, k, none⟩ = some (.slice (some ⟨w.heap.size + k, 0, none⟩) r.length r.length) ∧ RI .u8 wr (w.heap.size + 7) (some ⟨w.heap.size + k, 0, none⟩) r.length r
theorem BadSt.on {w : World} {rows : List (List Int)} {wr w' : World} {B : Nat} (h : BadSt w rows wr) (hb : Below B wr w') (hB : w.heap.size + 7 ≤ B) : BadSt w rows w' := fun k r hr =>
  ⟨(hb.cell (p := ⟨w.heap.size + 6, k, none⟩) (by show w.heap.size + 6 < B; omega)).trans (h k r hr).1, (h k r hr).2.on hb hB⟩
theorem new_row (w v : World) (k : Nat) (r : List Int) (t : TypeId) (h : v.heap.size = w.heap.size + k) (hk : k < 7) : RI .u8 (v.alloc (.cells (r.map (Value.int .u8)).toArray t)) (w.heap.size + 7) (some ⟨w.heap.size + k, 0, none⟩) r.length r := by
  rw [← h]
  exact (RI.new v .u8 r t).more (by omega)
theorem keep_row {v : World} {B : Nat} {A : Option Addr} {n m : Nat} {r : List Int} (h : RI .u8 v B A n r) (o : Obj) (hA : ∀ x, A = some x → x.block < m) (hm : m ≤ v.heap.size) : RI .u8 (v.alloc o) B A n r :=
  ⟨h.1, fun hn => by
    obtain ⟨ad, e, hb, hc⟩ := h.2 hn
    refine ⟨ad, e, hb, fun j u hu => ?_⟩
    rw [World.cell?_alloc_lt v o (ad.add j) (by rw [block_of_add]; have := hA ad e; omega)]
    exact hc j u hu⟩

theorem bad_start (w : World) (r0 r1 r2 r3 r4 r5 : List Int) (t t2 : TypeId) : BadSt w [r0, r1, r2, r3, r4, r5] (((((((w.alloc (.cells (r0.map (Value.int .u8)).toArray t)).alloc (.cells (r1.map (Value.int .u8)).toArray t)).alloc (.cells (r2.map (Value.int .u8)).toArray t)).alloc (.cells (r3.map (Value.int .u8)).toArray t)).alloc (.cells (r4.map (Value.int .u8)).toArray t)).alloc (.cells (r5.map (Value.int .u8)).toArray t)).alloc (.cells #[.slice (some ⟨w.heap.size, 0, none⟩) r0.length r0.length, .slice (some ⟨w.heap.size + 1, 0, none⟩) r1.length r1.length, .slice (some ⟨w.heap.size + 1 + 1, 0, none⟩) r2.length r2.length, .slice (some ⟨w.heap.size + 1 + 1 + 1, 0, none⟩) r3.length r3.length, .slice (some ⟨w.heap.size + 1 + 1 + 1 + 1, 0, none⟩) r4.length r4.length, .slice (some ⟨w.heap.size + 1 + 1 + 1 + 1 + 1, 0, none⟩) r5.length r5.length] t2)) := by
  have hcell : ∀ k, (((((((w.alloc (.cells (r0.map (Value.int .u8)).toArray t)).alloc (.cells (r1.map (Value.int .u8)).toArray t)).alloc (.cells (r2.map (Value.int .u8)).toArray t)).alloc (.cells (r3.map (Value.int .u8)).toArray t)).alloc (.cells (r4.map (Value.int .u8)).toArray t)).alloc (.cells (r5.map (Value.int .u8)).toArray t)).alloc (.cells #[.slice (some ⟨w.heap.size, 0, none⟩) r0.length r0.length, .slice (some ⟨w.heap.size + 1, 0, none⟩) r1.length r1.length, .slice (some ⟨w.heap.size + 1 + 1, 0, none⟩) r2.length r2.length, .slice (some ⟨w.heap.size + 1 + 1 + 1, 0, none⟩) r3.length r3.length, .slice (some ⟨w.heap.size + 1 + 1 + 1 + 1, 0, none⟩) r4.length r4.length, .slice (some ⟨w.heap.size + 1 + 1 + 1 + 1 + 1, 0, none⟩) r5.length r5.length] t2)).cell? ⟨w.heap.size + 6, k, none⟩ = _ := fun k => World.cell?_alloc_at _ _ _ k (by simp)
  intro k r hr
  rw [hcell]
  clear hcell
  match k, hr with
  | 0, hr =>
    obtain rfl : r0 = r := by simpa using hr
    exact ⟨rfl, keep_row (keep_row (keep_row (keep_row (keep_row (keep_row (new_row w w 0 r0 t (by simp) (by omega)) _ (m := w.heap.size + 0 + 1) (fun x e => by injection e with e; subst e; exact Nat.lt_succ_self _) (by simp)) _ (m := w.heap.size + 0 + 1) (fun x e => by injection e with e; subst e; exact Nat.lt_succ_self _) (by simp)) _ (m := w.heap.size + 0 + 1) (fun x e => by injection e with e; subst e; exact Nat.lt_succ_self _) (by simp)) _ (m := w.heap.size + 0 + 1) (fun x e => by injection e with e; subst e; exact Nat.lt_succ_self _) (by simp)) _ (m := w.heap.size + 0 + 1) (fun x e => by injection e with e; subst e; exact Nat.lt_succ_self _) (by simp)) _ (m := w.heap.size + 0 + 1) (fun x e => by injection e with e; subst e; exact Nat.lt_succ_self _) (by simp)⟩
  | 1, hr =>
    obtain rfl : r1 = r := by simpa using hr
    exact ⟨rfl, keep_row (keep_row (keep_row (keep_row (keep_row (new_row w (w.alloc (.cells (r0.map (Value.int .u8)).toArray t)) 1 r1 t (by simp) (by omega)) _ (m := w.heap.size + 1 + 1) (fun x e => by injection e with e; subst e; exact Nat.lt_succ_self _) (by simp)) _ (m := w.heap.size + 1 + 1) (fun x e => by injection e with e; subst e; exact Nat.lt_succ_self _) (by simp)) _ (m := w.heap.size + 1 + 1) (fun x e => by injection e with e; subst e; exact Nat.lt_succ_self _) (by simp)) _ (m := w.heap.size + 1 + 1) (fun x e => by injection e with e; subst e; exact Nat.lt_succ_self _) (by simp)) _ (m := w.heap.size + 1 + 1) (fun x e => by injection e with e; subst e; exact Nat.lt_succ_self _) (by simp)⟩
  | 2, hr =>
    obtain rfl : r2 = r := by simpa using hr
    exact ⟨rfl, keep_row (keep_row (keep_row (keep_row (new_row w ((w.alloc (.cells (r0.map (Value.int .u8)).toArray t)).alloc (.cells (r1.map (Value.int .u8)).toArray t)) 2 r2 t (by simp) (by omega)) _ (m := w.heap.size + 2 + 1) (fun x e => by injection e with e; subst e; exact Nat.lt_succ_self _) (by simp)) _ (m := w.heap.size + 2 + 1) (fun x e => by injection e with e; subst e; exact Nat.lt_succ_self _) (by simp)) _ (m := w.heap.size + 2 + 1) (fun x e => by injection e with e; subst e; exact Nat.lt_succ_self _) (by simp)) _ (m := w.heap.size + 2 + 1) (fun x e => by injection e with e; subst e; exact Nat.lt_succ_self _) (by simp)⟩
  | 3, hr =>
    obtain rfl : r3 = r := by simpa using hr
    exact ⟨rfl, keep_row (keep_row (keep_row (new_row w (((w.alloc (.cells (r0.map (Value.int .u8)).toArray t)).alloc (.cells (r1.map (Value.int .u8)).toArray t)).alloc (.cells (r2.map (Value.int .u8)).toArray t)) 3 r3 t (by simp) (by omega)) _ (m := w.heap.size + 3 + 1) (fun x e => by injection e with e; subst e; exact Nat.lt_succ_self _) (by simp)) _ (m := w.heap.size + 3 + 1) (fun x e => by injection e with e; subst e; exact Nat.lt_succ_self _) (by simp)) _ (m := w.heap.size + 3 + 1) (fun x e => by injection e with e; subst e; exact Nat.lt_succ_self _) (by simp)⟩
  | 4, hr =>
    obtain rfl : r4 = r := by simpa using hr
    exact ⟨rfl, keep_row (keep_row (new_row w ((((w.alloc (.cells (r0.map (Value.int .u8)).toArray t)).alloc (.cells (r1.map (Value.int .u8)).toArray t)).alloc (.cells (r2.map (Value.int .u8)).toArray t)).alloc (.cells (r3.map (Value.int .u8)).toArray t)) 4 r4 t (by simp) (by omega)) _ (m := w.heap.size + 4 + 1) (fun x e => by injection e with e; subst e; exact Nat.lt_succ_self _) (by simp)) _ (m := w.heap.size + 4 + 1) (fun x e => by injection e with e; subst e; exact Nat.lt_succ_self _) (by simp)⟩
  | 5, hr =>
    obtain rfl : r5 = r := by simpa using hr
    exact ⟨rfl, keep_row (new_row w (((((w.alloc (.cells (r0.map (Value.int .u8)).toArray t)).alloc (.cells (r1.map (Value.int .u8)).toArray t)).alloc (.cells (r2.map (Value.int .u8)).toArray t)).alloc (.cells (r3.map (Value.int .u8)).toArray t)).alloc (.cells (r4.map (Value.int .u8)).toArray t)) 5 r5 t (by simp) (by omega)) _ (m := w.heap.size + 5 + 1) (fun x e => by injection e with e; subst e; exact Nat.lt_succ_self _) (by simp)⟩
  | k + 6, hr => simp at hr

set_option maxHeartbeats 4000000 in
theorem utf8BadWalk (a0 a1 : Int) (w : World) (hT : Lib.Utf8Tabs 0 1 w) (w0 : (Lit.int .u8 a0).wf = true) (w1 : (Lit.int .u8 a1).wf = true) :
    Calls Tryd.prog 5 #[.int .u8 a0, .int .u8 a1] w fun e w' => e = .returned (.bool true) ∧ Below w.heap.size w w' := by
  obtain ⟨h0, h1⟩ := bounds_u8 w0
  obtain ⟨g0, g1⟩ := bounds_u8 w1
  have HT := Lib.hid hT
  clear hT w0 w1
  go_enter Tryd.func5, Tryd.ntmps5
  go_wp2
  go_loopw [6] (fun iv wr => ∃ k : Nat, k ≤ 6 ∧ iv = .int .i64 k ∧ w.heap.size + 7 ≤ wr.heap.size ∧ Hid (BadSt w (badRows a0 a1) wr) ∧ Below w.heap.size w wr) (fun iv _ => 6 - (intOf iv).toNat)
  case atStart =>
    refine ⟨0, by omega, rfl, by simp, bad_start w [192 + a0 % 2, 128 + a1 % 64] [224, 128 + a0 % 32, 128 + a1 % 64] [237, 160 + a0 % 32, 128 + a1 % 64] [240, 128 + a0 % 16, 128 + a1 % 64, 128] [244, 144 + a0 % 48, 128 + a1 % 64, 128] [245 + a0 % 11, 128 + a1 % 64] _ _, ?_⟩
    exact (((((((Below.refl _ _).alloc (Nat.le_refl _) _).alloc (by simp) _).alloc (by simp; omega) _).alloc (by simp; omega) _).alloc (by simp; omega) _).alloc (by simp; omega) _).alloc (by simp; omega) _
  case round =>
    obtain ⟨k, hk, rfl, hsz, HS, hb⟩ := hrel
    by_cases hlt : k < 6
    · obtain ⟨r, hr⟩ : ∃ r, (badRows a0 a1)[k]? = some r := ⟨_, List.getElem?_eq_getElem (by show k < 6; exact hlt)⟩
      obtain ⟨hc, hri⟩ := HS.out k r hr
      obtain ⟨hbd, hl4, hof⟩ := badRows_bad a0 a1 r (List.mem_of_getElem? hr)
      have HRI := Lib.hid hri
      have HBD := Lib.hid hbd
      have HOF := Lib.hid hof
      generalize hln : r.length = ln at *
      have HLN := Lib.hid hln
      clear hr hri hbd hof hln
      go_wp2_with fail
      with_reducible refine (decode_any wr (w.heap.size + 7) (some ⟨w.heap.size + k, 0, none⟩) ln ln r HRI.out hsz HBD.out (Nat.le_refl _) (by omega) (by unfold maxLen; omega) (tabs_below HT.out hb)).mono ?_
      rintro e w2 ⟨v2, rfl, hown2, hb2⟩
      rw [HOF.out] at hown2
      obtain ⟨A2, c2, rfl, h2c, h2m, hr2⟩ := own_slice2 hown2
      have hs2 := hb2.size
      have hl2 : (r.map fun z => -1 - z).length = ln := by rw [List.length_map]; exact HLN.out
      rw [hl2] at hr2
      have HR2 := Lib.hid hr2
      have HS2 := Lib.hid (HS.out.on hb2 hsz)
      have hc2 : w2.cell? ⟨w.heap.size + 6, k, none⟩ = some (.slice (some ⟨w.heap.size + k, 0, none⟩) ln ln) := (hb2.cell (p := ⟨w.heap.size + 6, k, none⟩) (by show w.heap.size + 6 < _; omega)).trans hc
      have B2 : Below w.heap.size w w2 := hb.trans (hb2.mono (by omega))
      rw [hl2]
      clear hown2 hr2 hl2 hc
      go_wp2
      go_loop [8] (fun jv => ∃ j : Nat, j ≤ ln ∧ jv = .int .i64 j) (fun jv => ln - (intOf jv).toNat)
      case atStart => exact ⟨0, Nat.zero_le _, rfl⟩
      case round =>
        obtain ⟨j, hj, rfl⟩ := hrel
        by_cases hjl : j < ln
        · obtain ⟨ad, u, rfl, _, hu, hcu⟩ := HR2.out.at_ hjl
          have hneg : u < 0 := by
            rw [List.getElem?_map] at hu
            obtain ⟨z, hz, rfl⟩ := Option.map_eq_some_iff.1 hu
            have := HBD.out z (List.mem_of_getElem? hz)
            omega
          clear hu
          go_wp2
          go_round
          case rel => exact ⟨j + 1, by omega, by go_num⟩
          case measure => simp [intOf]; omega
        · go_wp2
          go_roundw
          case rel => exact ⟨k + 1, by omega, by go_num, by omega, HS2.out, B2⟩
          case measure => simp [intOf]; omega
    · go_wp2_with fail
      with_reducible refine (known_any wr (tabs_below HT.out hb)).mono ?_
      rintro e w2 ⟨rfl, hb2⟩
      go_wp2
      go_ret
      exact ⟨rfl, hb.trans (hb2.mono (by omega))⟩
end Go.Proofs.YtiffofchjmfbpaaDoor.C
