/-
  The document's own Right of a tree. No condition.
-/
import Derived.Test.YtcpjcepeiplfgaaDoorTeC
import Derived.Test.YtcpjcepeiplfgaaDoorTeQ
import Derived.Test.YtcpjcepeiplfgaaDoorTaC
namespace Go.Proofs.YtcpjcepeiplfgaaDoor.C
open Go.RowKit

/-- what stands within a round: the node's box is block C -/
structure RiIn (W : World) (U G C n : Nat) (L : List Int) (ns : List Nd) (l : List Value) (wr : World) : Prop where
  r : RiSt W U G n L ns wr
  n : Rw wr C 31 l.toArray
  c : G < C
section
variable {W wr w2 : World} {U G C n : Nat} {L : List Int} {ns : List Nd} {l : List Value}
theorem RiIn.next (h : RiIn W U G C n L ns l wr) (hb : Below wr.heap.size wr w2) : RiIn W U G C n L ns l w2 := ⟨h.r.next hb, h.n.on hb h.n.lt, h.c⟩
theorem RiIn.use (h : RiIn W U G C n L ns l wr) (k : Nat) : RiIn W U G C n (L ++ [(k : Int)]) ns l (wr.setCell ⟨U, k, none⟩ (.int .i64 (((L.count (k : Int) : Nat) : Int) + 1))) :=
  ⟨h.r.use k, (Below.heap_setCell wr ⟨U, k, none⟩ _ C (by show C ≠ U; have := h.c; have := h.r.e; omega)).trans h.n, h.c⟩
theorem RiIn.grp {x : Nd} (h : RiIn W U G C n L ns l wr) {k : Nat} (h7 : x.k = 7) (hn : x.n = (k : Int)) : RiIn W U G C n L (ns ++ [x]) l (wr.setCell ⟨G, k, none⟩ (.int .i64 (((grpN ns (k : Int) : Nat) : Int) + 1))) :=
  ⟨h.r.grp h7 hn, (Below.heap_setCell wr ⟨G, k, none⟩ _ C (by show C ≠ G; have := h.c; omega)).trans h.n, h.c⟩
theorem RiIn.same {x : Nd} (h : RiIn W U G C n L ns l wr) (h7 : x.k ≠ 7) : RiIn W U G C n L (ns ++ [x]) l wr := ⟨h.r.same h7, h.n, h.c⟩
end
theorem count_le {l : List Int} {a : Int} {m : Nat} (h : l.length ≤ m) : l.count a ≤ m := Nat.le_trans List.count_le_length h
set_option maxRecDepth 100000 in
set_option maxHeartbeats 8000000 in
theorem refRight_any (w : World) (P : Nat → Prop) (A : Option Addr) (c : Nat) (t : Tr) (xs : List (List Value)) (hN : NdsP w P A t.ns xs) (hP : ∀ b, P b → b < w.heap.size) (hl : t.ns.length ≤ maxLen) (hkl : t.ns.length ≤ 200 → (kidsOf t.ns).length ≤ maxLen) :
    Calls Tryd.prog 27 #[.agg #[.slice A t.ns.length c, .int .i64 t.g]] w fun e w' => e = .returned (.bool (rightT t)) ∧ Below w.heap.size w w' := by
  obtain ⟨i0, hi, hz0, hz1, hz2⟩ := info_parts infoInt9
  obtain ⟨S, hS⟩ : ∃ S, w.heap.size = S := ⟨_, rfl⟩
  obtain ⟨W, hW⟩ : ∃ W, W = w.alloc (.cells #[.slice A t.ns.length c, .int .i64 t.g] 34) := ⟨_, rfl⟩
  obtain ⟨U, hU⟩ : ∃ U, S + 1 = U := ⟨_, rfl⟩
  obtain ⟨G, hG⟩ : ∃ G, U + 1 = G := ⟨_, rfl⟩
  have hb : Below w.heap.size w W := by rw [hW]; exact (Below.refl _ _).alloc (Nat.le_refl _) _
  have hr : Rw W S 34 #[.slice A t.ns.length c, .int .i64 t.g] := by rw [hW, ← hS]; exact heap_alloc_new w _
  have hs : W.heap.size = U := by rw [hW, ← hU, ← hS]; simp
  have HN : Hid (NdsP W P A t.ns xs) := Lib.hid (hN.keep (below_cells hb hP))
  have HP : Hid (∀ b, P b → b < S) := Lib.hid (fun b h => by have := hP b h; omega)
  have HRO := Lib.hid hr
  have HB : Hid (Below S w W) := Lib.hid (by rw [← hS]; exact hb)
  have HU := Lib.hid (And.intro hU hG)
  have c0 : W.cell? ⟨S, 0, none⟩ = some (.slice A t.ns.length c) := hr.cell (i := 0) rfl
  have c1 : W.cell? ⟨S, 1, none⟩ = some (.int .i64 t.g) := hr.cell (i := 1) rfl
  obtain ⟨n, hn⟩ : ∃ n, n = t.ns.length := ⟨_, rfl⟩
  obtain ⟨g, hg⟩ : ∃ g, g = t.g := ⟨_, rfl⟩
  have HNN := Lib.hid hn
  have HGG := Lib.hid hg
  have HSS : Hid (W.heap.size = U) := Lib.hid hs
  have HKL := Lib.hid hkl
  rw [← hn, ← hg] at hW ⊢
  rw [← hn] at c0 hl
  rw [← hg] at c1
  rw [hS]
  unfold maxLen at hl
  clear hN hP hb hr hkl hn hg
  go_enter Tryd.func27, Tryd.ntmps27
  go_upto_region 1 with fail
  rw [← hW]
  clear hW hS
  by_cases b1 : n < 1
  · have HF : Hid (rightT t = false) := Lib.hid (right_no fun h => by have := (right_all.1 h).1.1; have := HNN.out; omega)
    have b1' : (n : Int) < 1 := by omega
    go_wp2
    go_ret
    exact ⟨by rw [HF.out]; rfl, HB.out⟩
  have b1' : ¬ (n : Int) < 1 := by omega
  by_cases b2 : 200 < n
  · have HF : Hid (rightT t = false) := Lib.hid (right_no fun h => by have := (right_all.1 h).1.1; have := HNN.out; omega)
    have b2' : (200 : Int) < (n : Int) := by omega
    go_wp2
    go_ret
    exact ⟨by rw [HF.out]; rfl, HB.out⟩
  have b2' : ¬ (200 : Int) < (n : Int) := by omega
  by_cases b3 : g < 0
  · have HF : Hid (rightT t = false) := Lib.hid (right_no fun h => by have := (right_all.1 h).1.2; have := HGG.out; omega)
    go_wp2
    go_ret
    exact ⟨by rw [HF.out]; rfl, HB.out⟩
  by_cases b4 : 9 < g
  · have HF : Hid (rightT t = false) := Lib.hid (right_no fun h => by have := (right_all.1 h).1.2; have := HGG.out; omega)
    go_wp2
    go_ret
    exact ⟨by rw [HF.out]; rfl, HB.out⟩
  have HBND : Hid ((1 ≤ n ∧ n ≤ 200) ∧ 0 ≤ g ∧ g ≤ 9) := Lib.hid (by omega)
  have hmk : ∀ W : World, (Instr.makeSlice 29 (.int .i64 (n : Int)) (.int .i64 (n : Int))).run Tryd.prog W = .ok (.slice (some ⟨W.heap.size, 0, none⟩) n n) (W.alloc (.cells (madeCells #[.int .i64 0] n) 3)) := fun W => by
    have := run_make (P := Tryd.prog) W 29 3 i0 _ Tryd.underlying29 hi hz0 .i64 .i64 n n (by omega) (by omega) (by rw [hz2]; omega) (by omega)
    rw [hz1, Nat.mul_one] at this
    exact this
  have hmk10 : ∀ W : World, (Instr.makeSlice 29 (.int .i64 10) (.int .i64 10)).run Tryd.prog W = .ok (.slice (some ⟨W.heap.size, 0, none⟩) 10 10) (W.alloc (.cells (madeCells #[.int .i64 0] 10) 3)) := fun W => by
    have := run_make (P := Tryd.prog) W 29 3 i0 _ Tryd.underlying29 hi hz0 .i64 .i64 10 10 (by omega) (by omega) (by rw [hz2]; omega) (by omega)
    rw [hz1, Nat.mul_one] at this
    exact this
  obtain ⟨W3, hW3⟩ : ∃ W3, W3 = (W.alloc (.cells (madeCells #[.int .i64 0] n) 3)).alloc (.cells (madeCells #[.int .i64 0] 10) 3) := ⟨_, rfl⟩
  have H0 : Hid (RiSt W U G n (kidsOf (t.ns.take 0)) (t.ns.take 0) W3 ∧ ∀ j, j < 0 → nodeAt t j = true) := Lib.hid ⟨by rw [List.take_zero]; exact ri_start hs hG hW3, by intro j h; omega⟩
  go_upto_region 6 with fail
  rw [← hW3]
  clear hW3 hmk hmk10 hs hG hU hi hz0 hz1 hz2 c0 c1
  go_wp2
  go_loopw [6] (fun iv wr => ∃ i : Nat, i ≤ n ∧ iv = .int .i64 i ∧ Hid (RiSt W U G n (kidsOf (t.ns.take i)) (t.ns.take i) wr ∧ ∀ j, j < i → nodeAt t j = true)) (fun iv _ => n - (intOf iv).toNat)
  case atStart => exact ⟨0, Nat.zero_le _, rfl, H0⟩
  case round =>
    clear H0
    obtain ⟨i, hin, rfl, HQ⟩ := hrel
    have HBW : Hid (Below S w wr) := Lib.hid (HB.out.trans (HQ.out.1.b.mono (by have := HU.out; omega)))
    have hrr := HRO.out.on HQ.out.1.b (by have := HU.out; omega)
    have c0 : wr.cell? ⟨S, 0, none⟩ = some (.slice A n c) := by have h := hrr.cell (i := 0) (v := .slice A t.ns.length c) rfl; rwa [← HNN.out] at h
    have c1 : wr.cell? ⟨S, 1, none⟩ = some (.int .i64 g) := by have h := hrr.cell (i := 1) (v := .int .i64 t.g) rfl; rwa [← HGG.out] at h
    clear hrr
    by_cases hlt : i < n
    · have hlt' : (i : Int) < (n : Int) := by omega
      obtain ⟨x, hx⟩ : ∃ x, t.ns[i]? = some x := ⟨_, List.getElem?_eq_getElem (by have := HNN.out; omega)⟩
      obtain ⟨ad, vR, vT, vK, rfl, -, h9, hnd⟩ := (HN.out.keep (below_cells HQ.out.1.b (fun b hb => by have := HP.out b hb; have := HU.out; omega))).at_ hx
      have HND := Lib.hid hnd
      obtain ⟨⟨AR, cR, rfl, -⟩, ⟨AT, cT, _, rfl, -⟩, ⟨AK, cK, rfl, hri, hkm⟩⟩ := hnd
      have d0 := h9.c0
      have d1 := h9.c1
      have d2 := h9.c2
      have d3 := h9.c3
      have d4 := h9.c4
      have d5 := h9.c5
      have d6 := h9.c6
      have d7 := h9.c7
      have d8 := h9.c8
      obtain ⟨C, hC⟩ : ∃ C, wr.heap.size = C := ⟨_, rfl⟩
      obtain ⟨w4, hw4⟩ : ∃ w4, w4 = wr.alloc (.cells #[.int .u8 x.k, .int .i32 x.c, .bool x.nt, .slice AR x.rs.length cR, .slice AT x.ts.length cT, .int .i64 x.n, .int .i64 x.mn, .int .i64 x.mx, .slice AK x.ks.length cK] 31) := ⟨_, rfl⟩
      have hb4 : Below wr.heap.size wr w4 := by rw [hw4]; exact (Below.refl _ _).alloc (Nat.le_refl _) _
      have hro : Rw w4 C 31 (ndRow x (.slice AR x.rs.length cR) (.slice AT x.ts.length cT) (.slice AK x.ks.length cK)).toArray := by rw [hw4, ← hC]; exact heap_alloc_new wr _
      have HI4 : Hid (RiIn W U G C n (kidsOf (t.ns.take i)) (t.ns.take i) (ndRow x (.slice AR x.rs.length cR) (.slice AT x.ts.length cT) (.slice AK x.ks.length cK)) w4) := Lib.hid ⟨HQ.out.1.next hb4, hro, by have := HQ.out.1.g.lt; omega⟩
      have HC4 : Hid (w4.heap.size = C + 1 ∧ G < C ∧ S < U ∧ U < G) := Lib.hid ⟨by rw [hw4, ← hC]; simp, by have := HQ.out.1.g.lt; omega, by have := HU.out; omega, by have := HU.out; omega⟩
      have hnode := refNode_any w4 P x _ _ _ g (HND.out.keep (below_cells hb4 (fun b hb => by have := HP.out b hb; have := HC4.out; omega))) (fun b hb => by have := HP.out b hb; have := HC4.out; omega)
      unfold ndVal at hnode
      have k0 : w4.cell? ⟨C, 0, none⟩ = some (.int .u8 x.k) := hro.cell (i := 0) rfl
      have k1 : w4.cell? ⟨C, 1, none⟩ = some (.int .i32 x.c) := hro.cell (i := 1) rfl
      have k2 : w4.cell? ⟨C, 2, none⟩ = some (.bool x.nt) := hro.cell (i := 2) rfl
      have k3 : w4.cell? ⟨C, 3, none⟩ = some (.slice AR x.rs.length cR) := hro.cell (i := 3) rfl
      have k4 : w4.cell? ⟨C, 4, none⟩ = some (.slice AT x.ts.length cT) := hro.cell (i := 4) rfl
      have k5 : w4.cell? ⟨C, 5, none⟩ = some (.int .i64 x.n) := hro.cell (i := 5) rfl
      have k6 : w4.cell? ⟨C, 6, none⟩ = some (.int .i64 x.mn) := hro.cell (i := 6) rfl
      have k7 : w4.cell? ⟨C, 7, none⟩ = some (.int .i64 x.mx) := hro.cell (i := 7) rfl
      have k8 : w4.cell? ⟨C, 8, none⟩ = some (.slice AK x.ks.length cK) := hro.cell (i := 8) rfl
      have c1' : w4.cell? ⟨S, 1, none⟩ = some (.int .i64 g) := below_cell hb4 c1
      have HX := Lib.hid hx
      have hnat : nodeAt t i = (nodeB x g && x.ks.all fun k => decide (0 ≤ k) && decide (k < (i : Int))) := by
        unfold nodeAt
        rw [hx, ← HGG.out]
      have HNAT := Lib.hid hnat
      have HKR := Lib.hid hri
      have HKM := Lib.hid hkm
      have wi : IntKind.i64.wrap ((i : Int) + 1) = (i : Int) + 1 := by rw [IntKind.wrap_i64]; omega
      have HB4 : Hid (Below S w w4) := Lib.hid (HBW.out.trans (hb4.mono (by have := HC4.out; omega)))
      clear h9 hri hkm hb4 hro hx hnat
      go_upto_region 10 with fail
      rw [← hw4]
      clear hw4 d0 d1 d2 d3 d4 d5 d6 d7 d8 c0 c1 hC
      go_wp2_with fail
      refine hnode.mono ?_
      rintro e w5 ⟨rfl, hb5⟩
      have HI5 := Lib.hid (HI4.out.next hb5)
      have HB5 : Hid (Below S w w5) := Lib.hid (HB4.out.trans (hb5.mono (by have := HC4.out; omega)))
      have HBW5 : Hid (Below U W w5) := Lib.hid HI5.out.r.b
      have c1 := below_cell hb5 c1'
      have j0 := below_cell hb5 k0
      have j5 := below_cell hb5 k5
      have j8 := below_cell hb5 k8
      clear hnode hb5 c1' k0 k1 k2 k3 k4 k5 k6 k7 k8
      by_cases hnb : nodeB x g = true
      · rw [hnb]
        have HNB := Lib.hid hnb
        clear hnb
        obtain ⟨kl, hkl⟩ : ∃ kl, kl = x.ks.length := ⟨_, rfl⟩
        rw [← hkl] at j8
        have HKL2 := Lib.hid hkl
        clear hkl
        have HKX : Hid (RIp .i64 w5 P AK kl x.ks) := Lib.hid (by
          obtain ⟨AK', cK', hv, hri, -⟩ := (HND.out.keep (w' := w5) (by
            have h1 := (HB5.out)
            exact fun p hp => ((HBW5.out.cell (p := p) (by have := HP.out _ hp; have := HC4.out; omega)).trans (HQ.out.1.b.cell (p := p) (by have := HP.out _ hp; have := HC4.out; omega)).symm))).2.2
          cases hv
          rw [HKL2.out]
          exact hri)
        go_upto_if 50 with fail
        go_cut [] (fun wx => Hid (RiIn W U G C n (kidsOf (t.ns.take i)) (t.ns.take (i + 1)) (ndRow x (.slice AR x.rs.length cR) (.slice AT x.ts.length cT) (.slice AK x.ks.length cK)) wx))
        case first =>
          by_cases h7 : x.k = 7
          · obtain ⟨m1, m2⟩ := nodeB_7 HNB.out h7
            obtain ⟨m, hm⟩ : ∃ m : Nat, x.n = (m : Int) := ⟨x.n.toNat, by omega⟩
            have hm10 : m < 10 := by have := HBND.out; omega
            have hm10' : (m : Int) < 10 := by omega
            rw [hm] at j5
            obtain ⟨gc, hgc⟩ : ∃ gc, gc = grpN (t.ns.take i) (m : Int) := ⟨_, rfl⟩
            have q0 : w5.cell? ⟨G, m, none⟩ = some (.int .i64 (gc : Int)) := by rw [hgc]; exact HI5.out.r.g.cell (cnt_at hm10)
            have f0 := rw_frozen HI5.out.r.g m
            have hgb : gc ≤ 200 := by
              rw [hgc]
              unfold grpN
              have h1 := List.length_filter_le (fun x : Nd => decide (x.k = 7) && decide (x.n = (m : Int))) (t.ns.take i)
              have h2 : (t.ns.take i).length ≤ 200 := by rw [List.length_take]; have := HBND.out; have := HNN.out; omega
              omega
            have wg : IntKind.i64.wrap ((gc : Int) + 1) = (gc : Int) + 1 := by rw [IntKind.wrap_i64]; omega
            have e7 : (x.k == 7) = true := by rw [h7]; rfl
            have HE : Hid (RiIn W U G C n (kidsOf (t.ns.take i)) (t.ns.take (i + 1)) (ndRow x (.slice AR x.rs.length cR) (.slice AT x.ts.length cT) (.slice AK x.ks.length cK)) (w5.setCell ⟨G, m, none⟩ (.int .i64 ((gc : Int) + 1)))) := Lib.hid (by rw [take_nd HX.out, hgc]; exact HI5.out.grp h7 hm)
            clear h7 hgc hgb m1 m2 hm
            go_wp2
            go_meet
            exact HE
          · have e7 : (x.k == 7) = false := beq_eq_false_iff_ne.2 h7
            have HE : Hid (RiIn W U G C n (kidsOf (t.ns.take i)) (t.ns.take (i + 1)) (ndRow x (.slice AR x.rs.length cR) (.slice AT x.ts.length cT) (.slice AK x.ks.length cK)) w5) := Lib.hid (by rw [take_nd HX.out]; exact HI5.out.same h7)
            clear h7
            go_wp2
            go_meet
            exact HE
        case rest =>
          generalize wc = w6 at *
          have HI6 := Lib.hid hcut.out
          clear hcut HI5 HI4 j0 j5 j8 c1
          go_wp2
          go_loopw [8] (fun kv wq => ∃ k : Nat, k ≤ kl ∧ kv = .int .i64 k ∧ Hid (RiIn W U G C n (kidsOf (t.ns.take i) ++ x.ks.take k) (t.ns.take (i + 1)) (ndRow x (.slice AR x.rs.length cR) (.slice AT x.ts.length cT) (.slice AK x.ks.length cK)) wq ∧ ∀ z ∈ x.ks.take k, 0 ≤ z ∧ z < (i : Int))) (fun kv _ => kl - (intOf kv).toNat)
          case atStart => exact ⟨0, Nat.zero_le _, rfl, Lib.hid ⟨by rw [List.take_zero, List.append_nil]; exact HI6.out, by simp⟩⟩
          case round =>
            clear HI6
            obtain ⟨k, hkk, rfl, HK⟩ := hrel
            have j8 : wr.cell? ⟨C, 8, none⟩ = some (.slice AK kl cK) := by have h := HK.out.1.n.cell (i := 8) (v := .slice AK x.ks.length cK) rfl; rwa [← HKL2.out] at h
            have HBQ : Hid (Below S w wr) := Lib.hid (HB.out.trans (HK.out.1.r.b.mono (by have := HC4.out; omega)))
            by_cases hk : k < kl
            · obtain ⟨z, hz⟩ : ∃ z, x.ks[k]? = some z := ⟨_, List.getElem?_eq_getElem (by have := HKL2.out; omega)⟩
              obtain ⟨az, rfl, hazb, hac⟩ := HKX.out.2 (by omega)
              have dz : wr.cell? (az.add k) = some (.int .i64 z) := by
                have h1 := HK.out.1.r.b.cell (p := az.add k) (by rw [block_of_add]; have := HP.out _ hazb; have := HC4.out; omega)
                have h2 := HBW5.out.cell (p := az.add k) (by rw [block_of_add]; have := HP.out _ hazb; have := HC4.out; omega)
                exact h1.trans (h2.symm.trans (hac k z hz))
              have HZI := Lib.hid hz
              have HZM : Hid (z ∈ x.ks) := Lib.hid (List.mem_of_getElem? hz)
              have hkl' : (k : Int) < (kl : Int) := by omega
              clear hac hz
              by_cases z1 : z < 0
              · have HF : Hid (rightT t = false) := Lib.hid (right_no fun h => by
                  have h2 := (right_all.1 h).2.1 i (by have := HNN.out; omega)
                  rw [HNAT.out, Bool.and_eq_true, List.all_eq_true] at h2
                  have h3 := h2.2 z HZM.out
                  simp only [Bool.and_eq_true, decide_eq_true_eq] at h3
                  omega)
                go_wp2
                go_ret
                exact ⟨by rw [HF.out]; rfl, HBQ.out⟩
              · by_cases z2 : (i : Int) ≤ z
                · have HF : Hid (rightT t = false) := Lib.hid (right_no fun h => by
                    have h2 := (right_all.1 h).2.1 i (by have := HNN.out; omega)
                    rw [HNAT.out, Bool.and_eq_true, List.all_eq_true] at h2
                    have h3 := h2.2 z HZM.out
                    simp only [Bool.and_eq_true, decide_eq_true_eq] at h3
                    omega)
                  go_wp2
                  go_ret
                  exact ⟨by rw [HF.out]; rfl, HBQ.out⟩
                · obtain ⟨zn, rfl⟩ : ∃ zn : Nat, z = (zn : Int) := ⟨z.toNat, by omega⟩
                  have hzn : zn < n := by omega
                  have hzn' : (zn : Int) < (n : Int) := by omega
                  have z2' : ¬ (i : Int) ≤ (zn : Int) := z2
                  obtain ⟨uc, huc⟩ : ∃ uc, uc = (kidsOf (t.ns.take i) ++ x.ks.take k).count (zn : Int) := ⟨_, rfl⟩
                  have q0 : wr.cell? ⟨U, zn, none⟩ = some (.int .i64 (uc : Int)) := by rw [huc]; exact HK.out.1.r.u.cell (cntU_at hzn)
                  have f0 := rw_frozen HK.out.1.r.u zn
                  have hub : uc < 9223372036854775807 := by
                    rw [huc]
                    have h1 : (kidsOf (t.ns.take i) ++ x.ks.take k).length ≤ (kidsOf t.ns).length := by
                      have h3 : kidsOf t.ns = kidsOf (t.ns.take (i + 1)) ++ kidsOf (t.ns.drop (i + 1)) := by
                        unfold kidsOf
                        rw [← List.flatMap_append, List.take_append_drop]
                      rw [h3, take_nd HX.out, kidsOf_snoc]
                      simp only [List.length_append, List.length_take]
                      omega
                    have h2 := HKL.out (by have := HBND.out; have := HNN.out; omega)
                    have h4 := count_le (a := (zn : Int)) h1
                    have h5 : (kidsOf (t.ns.take i) ++ x.ks.take k).length < (kidsOf t.ns).length := by
                      have h3 : kidsOf t.ns = kidsOf (t.ns.take (i + 1)) ++ kidsOf (t.ns.drop (i + 1)) := by
                        unfold kidsOf
                        rw [← List.flatMap_append, List.take_append_drop]
                      rw [h3, take_nd HX.out, kidsOf_snoc]
                      simp only [List.length_append, List.length_take]
                      have := HKL2.out
                      omega
                    have h6 := count_le (a := (zn : Int)) (Nat.le_refl (kidsOf (t.ns.take i) ++ x.ks.take k).length)
                    unfold maxLen at h2
                    omega
                  have wu : IntKind.i64.wrap ((uc : Int) + 1) = (uc : Int) + 1 := by rw [IntKind.wrap_i64]; omega
                  have HE : Hid (RiIn W U G C n (kidsOf (t.ns.take i) ++ x.ks.take (k + 1)) (t.ns.take (i + 1)) (ndRow x (.slice AR x.rs.length cR) (.slice AT x.ts.length cT) (.slice (some az) x.ks.length cK)) (wr.setCell ⟨U, zn, none⟩ (.int .i64 ((uc : Int) + 1))) ∧ ∀ z ∈ x.ks.take (k + 1), 0 ≤ z ∧ z < (i : Int)) := Lib.hid ⟨by
                    rw [List.take_add_one, HZI.out, ← List.append_assoc, huc]
                    exact HK.out.1.use zn, fun y hy => by
                    rcases mem_take_next HZI.out hy with h | h
                    · exact HK.out.2 y h
                    · rw [h]; omega⟩
                  have wk : IntKind.i64.wrap ((k : Int) + 1) = (k : Int) + 1 := by rw [IntKind.wrap_i64]; have h1 := HKM.out; have := HKL2.out; unfold maxLen at h1; omega
                  clear huc hub
                  go_wp2
                  go_roundw
                  case rel => exact ⟨k + 1, by omega, by go_num, HE⟩
                  case measure => simp [intOf]; omega
            · obtain rfl : k = kl := by omega
              have HE : Hid (RiSt W U G n (kidsOf (t.ns.take (i + 1))) (t.ns.take (i + 1)) wr ∧ ∀ j, j < i + 1 → nodeAt t j = true) := Lib.hid (by
                have h1 := HK.out
                rw [HKL2.out, List.take_length] at h1
                refine ⟨by rw [take_nd HX.out, kidsOf_snoc, ← take_nd HX.out]; exact h1.1.r, fun j hj => ?_⟩
                rcases Nat.lt_or_ge j i with h | h
                · exact HQ.out.2 j h
                · obtain rfl : j = i := by omega
                  rw [HNAT.out, HNB.out, Bool.true_and]
                  refine List.all_eq_true.2 fun z hz => ?_
                  have := h1.2 z hz
                  simp only [Bool.and_eq_true, decide_eq_true_eq]
                  exact this)
              go_wp2
              go_roundw
              case rel => exact ⟨i + 1, by omega, by go_num, HE⟩
              case measure => simp [intOf]; omega
      · have hnb' : nodeB x g = false := by simpa using hnb
        rw [hnb']
        have HF : Hid (rightT t = false) := Lib.hid (right_no fun h => by
          have h2 := (right_all.1 h).2.1 i (by have := HNN.out; omega)
          rw [HNAT.out, hnb'] at h2
          simp at h2)
        clear hnb hnb'
        go_wp2
        go_ret
        exact ⟨by rw [HF.out]; rfl, HB5.out⟩
    · obtain rfl : i = n := by omega
      have HALL : Hid (RiSt W U G i (kidsOf t.ns) t.ns wr ∧ ∀ j, j < t.ns.length → nodeAt t j = true) := Lib.hid (by have h := HQ.out; rw [HNN.out, List.take_length] at h; rw [HNN.out]; exact h)
      clear HQ
      have hii : ¬ (i : Int) < (i : Int) := by omega
      go_wp2
      go_loopw [9] (fun jv wq => ∃ j : Nat, j ≤ i ∧ jv = .int .i64 j ∧ wq = wr ∧ Hid (∀ m, m < j → m < i - 1 → useN t.ns m = 1)) (fun jv _ => i - (intOf jv).toNat)
      case atStart => exact ⟨0, Nat.zero_le _, rfl, rfl, Lib.hid (by intro m h; omega)⟩
      case round =>
        obtain ⟨j, hji, rfl, rfl, HU2⟩ := hrel
        have wi1 : IntKind.i64.wrap ((i : Int) - 1) = (i : Int) - 1 := by rw [IntKind.wrap_i64]; omega
        have wj : IntKind.i64.wrap ((j : Int) + 1) = (j : Int) + 1 := by rw [IntKind.wrap_i64]; omega
        by_cases hj : j < i
        · have hj' : (j : Int) < (i : Int) := by omega
          have q0 : wr.cell? ⟨U, j, none⟩ = some (.int .i64 ((useN t.ns j : Nat) : Int)) := HALL.out.1.u.cell (cntU_at hj)
          by_cases hj1 : j < i - 1
          · have hj1' : (j : Int) < (i : Int) - 1 := by omega
            by_cases hu : useN t.ns j = 1
            · rw [hu] at q0
              have HE : Hid (∀ m, m < j + 1 → m < i - 1 → useN t.ns m = 1) := Lib.hid (fun m h1 h2 => by
                rcases Nat.lt_or_ge m j with h | h
                · exact HU2.out m h h2
                · obtain rfl : m = j := by omega
                  exact hu)
              clear hu
              go_wp2
              go_roundw
              case rel => exact ⟨j + 1, by omega, by go_num, by first | rfl | trivial, HE⟩
              case measure => simp [intOf]; omega
            · have HF : Hid (rightT t = false) := Lib.hid (right_no fun h => hu ((right_all.1 h).2.2.1 j (by have := HNN.out; omega)))
              have hu' : (((useN t.ns j : Nat) : Int) == 1) = false := beq_eq_false_iff_ne.2 (by omega)
              obtain ⟨uu, huu⟩ : ∃ uu : Int, ((useN t.ns j : Nat) : Int) = uu := ⟨_, rfl⟩
              rw [huu] at q0 hu'
              have hu2 : ¬ uu = 1 := by omega
              clear hu huu
              go_wp2
              go_ret
              exact ⟨by rw [HF.out]; rfl, HBW.out⟩
          · have hj1' : ¬ (j : Int) < (i : Int) - 1 := by omega
            have HE : Hid (∀ m, m < j + 1 → m < i - 1 → useN t.ns m = 1) := Lib.hid (fun m h1 h2 => HU2.out m (by omega) h2)
            go_wp2
            go_roundw
            case rel => exact ⟨j + 1, by omega, by go_num, by first | rfl | trivial, HE⟩
            case measure => simp [intOf]; omega
        · obtain rfl : j = i := by omega
          have HUA : Hid (∀ m, m < t.ns.length - 1 → useN t.ns m = 1) := Lib.hid (fun m h => HU2.out m (by have := HNN.out; omega) (by have := HNN.out; omega))
          clear HU2
          obtain ⟨gg, hgg⟩ : ∃ gg : Nat, g = (gg : Int) := ⟨g.toNat, by omega⟩
          have hg9 : gg ≤ 9 := by omega
          have HGN : Hid (t.g = (gg : Int)) := Lib.hid (by rw [← HGG.out]; exact hgg)
          rw [hgg] at c1
          clear b3 b4 HBND HGG
          subst hgg
          go_wp2
          go_loopw [10] (fun jv wq => ∃ m : Nat, 1 ≤ m ∧ m ≤ gg + 1 ∧ jv = .int .i64 m ∧ wq = wr ∧ Hid (∀ q, q + 1 < m → grpN t.ns ((q : Int) + 1) = 1)) (fun jv _ => gg + 1 - (intOf jv).toNat)
          case atStart => exact ⟨1, by omega, by omega, rfl, rfl, Lib.hid (by intro q h; omega)⟩
          case round =>
            obtain ⟨m, hm1, hmg, rfl, rfl, HGQ⟩ := hrel
            by_cases hle : m ≤ gg
            · have hle' : (m : Int) ≤ (gg : Int) := by omega
              have hm10 : (m : Int) < 10 := by omega
              have q0 : wr.cell? ⟨G, m, none⟩ = some (.int .i64 ((grpN t.ns (m : Int) : Nat) : Int)) := HALL.out.1.g.cell (cnt_at (by omega))
              have wm : IntKind.i64.wrap ((m : Int) + 1) = (m : Int) + 1 := by rw [IntKind.wrap_i64]; omega
              by_cases hu : grpN t.ns (m : Int) = 1
              · rw [hu] at q0
                have HE : Hid (∀ q, q + 1 < m + 1 → grpN t.ns ((q : Int) + 1) = 1) := Lib.hid (fun q h1 => by
                  rcases Nat.lt_or_ge (q + 1) m with h | h
                  · exact HGQ.out q h
                  · rw [show (q : Int) + 1 = (m : Int) from by omega]
                    exact hu)
                clear hu
                go_wp2
                go_roundw
                case rel => exact ⟨m + 1, by omega, by omega, by go_num, by first | rfl | trivial, HE⟩
                case measure => simp [intOf]; omega
              · have HF : Hid (rightT t = false) := Lib.hid (right_no fun h => hu (by
                  have h1 := (right_all.1 h).2.2.2 (m - 1) (by have := HGN.out; omega)
                  rwa [show ((m - 1 : Nat) : Int) + 1 = (m : Int) from by omega] at h1))
                obtain ⟨uu, huu⟩ : ∃ uu : Int, ((grpN t.ns (m : Int) : Nat) : Int) = uu := ⟨_, rfl⟩
                have hu' : (uu == 1) = false := beq_eq_false_iff_ne.2 (by omega)
                rw [huu] at q0
                clear hu huu
                go_wp2
                go_ret
                exact ⟨by rw [HF.out]; rfl, HBW.out⟩
            · have hle' : ¬ (m : Int) ≤ (gg : Int) := by omega
              have HF : Hid (rightT t = true) := Lib.hid (right_all.2 ⟨⟨⟨by have := HNN.out; omega, by have := HNN.out; omega⟩, by have := HGN.out; omega, by have := HGN.out; omega⟩, HALL.out.2, HUA.out, fun q hq => HGQ.out q (by have := HGN.out; omega)⟩)
              go_wp2
              go_ret
              exact ⟨by rw [HF.out]; rfl, HBW.out⟩
end Go.Proofs.YtcpjcepeiplfgaaDoor.C
