/-
  printNode and Print: the text of a tree. Condition: what the listed variables hold; at most 1000 ranges and texts in a node.
-/
import Derived.Test.YtcpjcepeiplfgaaDoorTcJ
import Derived.Test.YtcpjcepeiplfgaaDoorTbH
namespace Go.Proofs.YtcpjcepeiplfgaaDoor.C
open Go.RowKit

theorem joinP_snoc (sep : List UInt8) (f : Int → List UInt8) (l : List Int) (k : Int) : joinP sep f (l ++ [k]) = joinP sep f l ++ (if l = [] then [] else sep) ++ f k := by
  cases l with
  | nil => simp [joinP]
  | cons a r =>
    rw [List.cons_append, if_neg (by simp)]
    show f a ++ ((r ++ [k]).flatMap fun j => sep ++ f j) = (f a ++ r.flatMap fun j => sep ++ f j) ++ sep ++ f k
    rw [List.flatMap_append]
    simp
theorem joinP_le (sep : List UInt8) (f : Int → List UInt8) (l r : List Int) : (joinP sep f l).length ≤ (joinP sep f (l ++ r)).length := by
  refine list_snoc (P := fun r => (joinP sep f l).length ≤ (joinP sep f (l ++ r)).length) ?_ ?_ r
  · rw [List.append_nil]; exact Nat.le_refl _
  · intro r k ih
    rw [← List.append_assoc, joinP_snoc, List.length_append, List.length_append]
    omega
theorem buTy2 (v : Value) : BuTy 77 [v] := .inr ⟨rfl, rfl⟩
/-- what printNode leaves -/
def PnTold (p B : Nat) (v : Value) (bs : List UInt8) (w : World) (e : Ending) (w' : World) : Prop := e = .returned (.tuple #[]) ∧ BuAt 77 [v] B p (.pointer (some ⟨p, 0, none⟩)) bs w' ∧ Kp p w w' ∧ Below B w w'
/-- what stands in printNode -/
structure PnSt (p B : Nat) (v : Value) (bs : List UInt8) (w wr : World) : Prop where
  u : IsBu 77 [v] B p bs wr
  k : Kp p w wr
  b : Below B w wr
theorem PnSt.lt {p B : Nat} {v : Value} {bs : List UInt8} {w wr : World} (h : PnSt p B v bs w wr) : p < wr.heap.size := by rcases h.u with h | h <;> exact h.lt
theorem PnSt.p {p B : Nat} {v : Value} {bs : List UInt8} {w wr : World} (h : PnSt p B v bs w wr) : B ≤ p := by rcases h.u with h | h <;> exact h.1
theorem PnSt.next {p B : Nat} {v : Value} {bs : List UInt8} {w wr w2 : World} (h : PnSt p B v bs w wr) (hb : Below wr.heap.size wr w2) : PnSt p B v bs w w2 := ⟨h.u.next hb, h.k.trans (Kp.of_below hb), h.b.trans (hb.mono (by have := h.lt; have := h.p; omega))⟩
theorem PnSt.go {p B : Nat} {v : Value} {bs bs' : List UInt8} {w wr w2 : World} (h : PnSt p B v bs w wr) (hu : BuAt 77 [v] B p (.pointer (some ⟨p, 0, none⟩)) bs' w2) (hk : Kp p wr w2) (hb : Below B wr w2) : PnSt p B v bs' w w2 := ⟨.inr hu, h.k.trans hk, h.b.trans hb⟩
theorem pn_write {p B : Nat} {v : Value} {bs l : List UInt8} {w wr : World} (h : PnSt p B v bs w wr) (hl : bs.length + l.length ≤ 140737488355328) : Calls Tryd.prog 52 #[.pointer (some ⟨p, 0, none⟩), .string (str l)] wr fun e w' => e = .returned (.tuple #[.int .i64 l.length, .nilIface]) ∧ Hid (PnSt p B v (bs ++ l) w w') ∧ Hid (Kp p wr w') ∧ Hid (BuAt 77 [v] B p (.pointer (some ⟨p, 0, none⟩)) (bs ++ l) w') := by
  refine (writeString_any _ [v] B p bs l wr (buTy2 v) h.u hl (by have := h.lt; have := h.p; omega)).mono ?_
  rintro e w' ⟨rfl, h1, h2, h3⟩
  exact ⟨rfl, Lib.hid (h.go h1 h2 h3), Lib.hid h2, Lib.hid h1⟩
set_option maxRecDepth 100000 in
set_option maxHeartbeats 8000000 in
theorem printNode_any (t : Tr) (B p c : Nat) (A : Option Addr) (xs : List (List Value)) (hn : ∀ i, i < t.ns.length → nodeAt t i = true) (hg : t.g ≤ 9) (hs : ∀ x ∈ t.ns, Sized x) (hB : 3 ≤ B) : ∀ (i : Nat) (w : World) (bs : List UInt8), i < t.ns.length → NdsP w (· < B) A t.ns xs → IsBu 77 [.slice A t.ns.length c] B p bs w → Gt w → bs.length + (prI t (i : Int)).length ≤ 140737488355328 →
    Calls Tryd.prog 33 #[.pointer (some ⟨p, 0, none⟩), .int .i64 i] w (PnTold p B (.slice A t.ns.length c) (bs ++ prI t (i : Int)) w) := by
  intro i
  induction i using Nat.strongRecOn with
  | ind i ih =>
    intro w bs hi hN hu hG hlen
    obtain ⟨x, hx⟩ : ∃ x, t.ns[i]? = some x := ⟨_, List.getElem?_eq_getElem hi⟩
    have hna := hn i hi
    unfold nodeAt at hna
    rw [hx] at hna
    simp only [Bool.and_eq_true, List.all_eq_true, decide_eq_true_eq] at hna
    obtain ⟨hnb, hks⟩ := hna
    have hpr := prI_eq hx hks
    obtain ⟨ad, vR, vT, vK, rfl, hPa, h9, hnd⟩ := hN.at_ hx
    obtain ⟨⟨AR, cR, rfl, -⟩, ⟨AT, cT, us, rfl, -⟩, ⟨AK, cK, rfl, -⟩⟩ := id hnd
    obtain ⟨d0, d1, d2, d3, d4, d5, d6, d7, d8⟩ := h9
    have h0 : PnSt p B (.slice (some ad) t.ns.length c) bs w w := ⟨hu, Kp.refl _ _, Below.refl _ _⟩
    have n2 : w.cell? ⟨p, 2, none⟩ = some (.slice (some ad) t.ns.length c) := by
      rcases hu with ⟨-, v, hr, -⟩ | ⟨-, v, hr, -⟩ <;> exact hr.cell (i := 2) rfl
    obtain ⟨w1, hw1⟩ : ∃ w1, w1 = w.alloc (.cells #[.int .u8 x.k, .int .i32 x.c, .bool x.nt, .slice AR x.rs.length cR, .slice AT x.ts.length cT, .int .i64 x.n, .int .i64 x.mn, .int .i64 x.mx, .slice AK x.ks.length cK] 31) := ⟨_, rfl⟩
    have hb1 : Below w.heap.size w w1 := by rw [hw1]; exact (Below.refl _ _).alloc (Nat.le_refl _) _
    have hro1 : Rw w1 w.heap.size 31 (ndRow x (.slice AR x.rs.length cR) (.slice AT x.ts.length cT) (.slice AK x.ks.length cK)).toArray := by rw [hw1]; exact heap_alloc_new w _
    obtain ⟨R, hR⟩ : ∃ R, w.heap.size = R := ⟨_, rfl⟩
    rw [hR] at hro1
    have hpl := h0.lt
    have hpp := h0.p
    rw [hR] at hpl
    have hcall := signsOf_any w1 (· < B) x t.g _ _ _ (hnd.keep (below_cells (P := (· < B)) hb1 (fun b hb => by omega))) (fun b hb => by have := hb1.size; omega) hnb hg (hs x (List.mem_of_getElem? hx)) (hG.next hb1 hG.lt)
    unfold ndVal at hcall
    have HI := Lib.hid ih
    have HX := Lib.hid hx
    have HKS := Lib.hid hks
    have HPR := Lib.hid hpr
    have HND := Lib.hid hnd
    have HNDS := Lib.hid hN
    have H1 := Lib.hid (h0.next hb1)
    have HRO1 := Lib.hid hro1
    have HRR := Lib.hid hR
    have HPL := Lib.hid hpl
    have HPP := Lib.hid hpp
    have HLEN := Lib.hid hlen
    have HIL := Lib.hid hi
    have HGW : Hid (∀ w', Below B w w' → Gt w') := Lib.hid (fun w' hb => hG.next hb hB)
    have q0 : w1.cell? ⟨R, 0, none⟩ = some (.int .u8 x.k) := hro1.cell (i := 0) rfl
    have q1 : w1.cell? ⟨R, 1, none⟩ = some (.int .i32 x.c) := hro1.cell (i := 1) rfl
    have q2 : w1.cell? ⟨R, 2, none⟩ = some (.bool x.nt) := hro1.cell (i := 2) rfl
    have q3 : w1.cell? ⟨R, 3, none⟩ = some (.slice AR x.rs.length cR) := hro1.cell (i := 3) rfl
    have q4 : w1.cell? ⟨R, 4, none⟩ = some (.slice AT x.ts.length cT) := hro1.cell (i := 4) rfl
    have q5 : w1.cell? ⟨R, 5, none⟩ = some (.int .i64 x.n) := hro1.cell (i := 5) rfl
    have q6 : w1.cell? ⟨R, 6, none⟩ = some (.int .i64 x.mn) := hro1.cell (i := 6) rfl
    have q7 : w1.cell? ⟨R, 7, none⟩ = some (.int .i64 x.mx) := hro1.cell (i := 7) rfl
    have q8 : w1.cell? ⟨R, 8, none⟩ = some (.slice AK x.ks.length cK) := hro1.cell (i := 8) rfl
    obtain ⟨n, hnn⟩ : ∃ n, n = t.ns.length := ⟨_, rfl⟩
    have i0 : (0 : Int) ≤ (i : Int) := by omega
    have i1 : (i : Int) < (n : Int) := by omega
    rw [← hnn] at n2
    have HNN := Lib.hid hnn
    clear ih hx hks hpr hnd hN h0 hb1 hro1 hpl hpp hlen hG hu hPa hnb hnn hi
    go_enter Tryd.func33, Tryd.ntmps33
    go_upto_region 1 with fail
    rw [← hw1]
    clear hw1 d0 d1 d2 d3 d4 d5 d6 d7 d8 n2
    go_wp2_with fail
    refine hcall.mono ?_
    rintro e w2 ⟨rfl, hb2⟩
    have H2 := Lib.hid (H1.out.next hb2)
    have HRO2 : Hid (Rw w2 R 31 (ndRow x (.slice AR x.rs.length cR) (.slice AT x.ts.length cT) (.slice AK x.ks.length cK)).toArray) := Lib.hid (HRO1.out.on hb2 HRO1.out.lt)
    clear hcall hb2 q0 q1 q2 q3 q4 q5 q6 q7 q8
    have hwr := pn_write (l := befT x) H2.out (by have h := HLEN.out; rw [HPR.out] at h; simp only [List.length_append] at h; omega)
    go_wp2_with fail
    refine hwr.mono ?_
    rintro e w3 ⟨rfl, H3, HK3, -⟩
    have hro3 := HK3.out.rw HRO2.out (by have := HPL.out; omega) (by decide)
    have q8 : w3.cell? ⟨R, 8, none⟩ = some (.slice AK x.ks.length cK) := hro3.cell (i := 8) rfl
    obtain ⟨m, hmm⟩ : ∃ m, m = x.ks.length := ⟨_, rfl⟩
    have HMM := Lib.hid hmm
    rw [← hmm] at q8
    clear hwr hro3 hmm H2 HK3
    go_wp2_with fail
    go_loopw [31] (fun iv wr => ∃ j : Nat, j ≤ m ∧ iv = .int .i64 j ∧ Hid (PnSt p B (.slice (some ad) t.ns.length c) (bs ++ befT x ++ joinP (betT x) (prI t) (x.ks.take j)) w wr)) (fun iv _ => m - (intOf iv).toNat)
    case atStart => exact ⟨0, Nat.zero_le _, rfl, Lib.hid (by simpa [joinP] using H3.out)⟩
    case round =>
      clear H3
      obtain ⟨j, hjm, rfl, HR⟩ := hrel
      by_cases hlt : j < m
      · obtain ⟨k, hk⟩ : ∃ k, x.ks[j]? = some k := ⟨_, List.getElem?_eq_getElem (by have := HMM.out; omega)⟩
        have hkr := HKS.out k (List.mem_of_getElem? hk)
        obtain ⟨kn, rfl⟩ : ∃ kn : Nat, k = (kn : Int) := ⟨k.toNat, by omega⟩
        obtain ⟨A', c', hv, hri, hkm⟩ := HND.out.2.2.keep (below_cells (P := (· < B)) HR.out.b (fun b hb => hb))
        injection hv with hA _ hc
        subst hA hc
        obtain ⟨ak, u, rfl, -, hu, dk⟩ := hri.at_ (k := j) (by have := HMM.out; omega)
        rw [hk] at hu
        injection hu with hu
        subst hu
        have htk : x.ks.take (j + 1) = x.ks.take j ++ [(kn : Int)] := take_one hk
        have hjl : (joinP (betT x) (prI t) (x.ks.take (j + 1))).length ≤ (joinP (betT x) (prI t) x.ks).length := by
          have := joinP_le (betT x) (prI t) (x.ks.take (j + 1)) (x.ks.drop (j + 1))
          rwa [List.take_append_drop] at this
        rw [htk, joinP_snoc] at hjl
        have hle : bs.length + ((befT x).length + (joinP (betT x) (prI t) x.ks).length + (behT x).length) ≤ 140737488355328 := by
          have h := HLEN.out
          rw [HPR.out] at h
          simp only [List.length_append] at h
          omega
        simp only [List.length_append] at hjl
        have HTK := Lib.hid htk
        have wj : IntKind.i64.wrap ((j : Int) + 1) = (j : Int) + 1 := by rw [IntKind.wrap_i64]; have := HMM.out; unfold maxLen at hkm; omega
        clear hkm
        have hkt : kn < t.ns.length := by have := HIL.out; omega
        have hki : kn < i := by omega
        by_cases hj0 : j = 0
        · subst hj0
          have hc := HI.out kn hki wr _ hkt (HNDS.out.keep (below_cells (P := (· < B)) HR.out.b (fun b hb => hb))) HR.out.u (HGW.out _ HR.out.b) (by simp only [List.length_append]; simp only [List.take_zero, if_true, List.length_nil] at hjl ⊢; omega)
          rw [← HNN.out] at hc
          rw [show ak.add 0 = ak from by unfold Addr.add; rw [if_pos rfl]] at dk
          clear hri hk hjl hle htk hkr hkt hki
          go_wp2_with fail
          refine hc.mono ?_
          rintro e w5 ⟨rfl, h1, h2, h3⟩
          have HE : Hid (PnSt p B (.slice (some ad) t.ns.length c) (bs ++ befT x ++ joinP (betT x) (prI t) (x.ks.take (0 + 1))) w w5) := Lib.hid (by
            rw [HTK.out, joinP_snoc]
            have := HR.out.go (by rw [← HNN.out]; exact h1) h2 h3
            simpa [joinP] using this)
          clear hc h1 h2 h3 HR
          go_wp2
          go_roundw
          case rel => exact ⟨1, by omega, by go_num, HE⟩
          case measure => simp [intOf]; omega
        · have hj1 : (0 : Int) < (j : Int) := by omega
          have hne : ¬ x.ks.take j = [] := by
            intro h
            have := congrArg List.length h
            rw [List.length_take] at this
            simp only [List.length_nil] at this
            have := HMM.out
            omega
          rw [if_neg hne] at hjl
          have HNE := Lib.hid hne
          have hwr := pn_write (l := betT x) HR.out (by simp only [List.length_append]; omega)
          have hc : ∀ w4, PnSt p B (.slice (some ad) t.ns.length c) (bs ++ befT x ++ joinP (betT x) (prI t) (x.ks.take j) ++ betT x) w w4 → Calls Tryd.prog 33 #[.pointer (some ⟨p, 0, none⟩), .int .i64 kn] w4 (PnTold p B (.slice (some ad) t.ns.length c) (bs ++ befT x ++ joinP (betT x) (prI t) (x.ks.take j) ++ betT x ++ prI t (kn : Int)) w4) := fun w4 h4 =>
            HI.out kn hki w4 _ hkt (HNDS.out.keep (below_cells (P := (· < B)) h4.b (fun b hb => hb))) h4.u (HGW.out _ h4.b) (by simp only [List.length_append]; omega)
          have HC := Lib.hid hc
          clear hri hk hjl hle htk hkr hkt hki hne hc
          go_wp2_with fail
          refine hwr.mono ?_
          rintro e w4 ⟨rfl, H4, -, -⟩
          have hc := HC.out w4 H4.out
          clear hwr
          go_wp2_with fail
          refine hc.mono ?_
          rintro e w5 ⟨rfl, h1, h2, h3⟩
          have HE : Hid (PnSt p B (.slice (some ad) t.ns.length c) (bs ++ befT x ++ joinP (betT x) (prI t) (x.ks.take (j + 1))) w w5) := Lib.hid (by
            rw [HTK.out, joinP_snoc, if_neg HNE.out]
            have := H4.out.go h1 h2 h3
            simpa using this)
          clear hc h1 h2 h3 HR H4
          go_wp2
          go_roundw
          case rel => exact ⟨j + 1, by omega, by go_num, HE⟩
          case measure => simp [intOf]; omega
      · obtain rfl : j = m := by omega
        have hst := HR.out
        rw [HMM.out, List.take_length] at hst
        have hwr := pn_write (l := behT x) hst (by
          have h := HLEN.out
          rw [HPR.out] at h
          simp only [List.length_append] at h ⊢
          omega)
        have HST := Lib.hid hst
        clear hst
        go_wp2_with fail
        refine hwr.mono ?_
        rintro e w5 ⟨rfl, H5, -, HB5⟩
        have HE : Hid (PnTold p B (.slice (some ad) t.ns.length c) (bs ++ prI t (i : Int)) w (.returned (.tuple #[])) w5) := Lib.hid ⟨rfl, by rw [HPR.out]; simpa using HB5.out, H5.out.k, H5.out.b⟩
        clear hwr H5 HB5
        go_wp2
        go_end0
        exact HE.out
end Go.Proofs.YtcpjcepeiplfgaaDoor.C
