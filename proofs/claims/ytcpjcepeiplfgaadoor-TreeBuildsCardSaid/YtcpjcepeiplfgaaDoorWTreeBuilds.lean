/-
  TreeBuilds: nodes, laid one behind the other by the builder, are the tree; it may be. Condition: what the listed variables hold.
-/
import Derived.Test.YtcpjcepeiplfgaaDoorTdC
import Derived.Test.YtcpjcepeiplfgaaDoorTdP
import Derived.Test.YtcpjcepeiplfgaaDoorTdB
import Derived.Test.YtcpjcepeiplfgaaDoorTaE
namespace Go.Proofs.YtcpjcepeiplfgaaDoor.C
open Go.RowKit

theorem pref_size {t : Tr} {i : Nat} (hl : t.ns.length ≤ 81) : (prefT t i).ns.length ≤ 1000 ∧ 0 ≤ (prefT t i).g ∧ (prefT t i).g ≤ 1000 := by
  have h1 : (t.ns.take i).length ≤ 81 := by rw [List.length_take]; omega
  have h2 : (gsOf (t.ns.take i)).length ≤ (t.ns.take i).length := by
    unfold gsOf
    rw [List.length_map]
    exact List.length_filter_le _ _
  exact ⟨by show (t.ns.take i).length ≤ 1000; omega, by show (0 : Int) ≤ ((gsOf (t.ns.take i)).length : Nat); omega, by show (((gsOf (t.ns.take i)).length : Nat) : Int) ≤ 1000; omega⟩
theorem told_next {w3 w4 w5 : World} {Bb i : Nat} {v : Value} {t : Tr} {x : Nd} {e : Ending} (h : BuTold w4 Bb v (prefT t i) x e w5) (hu : BuSt w4 Bb v (prefT t i)) (hb : Below Bb w3 w4) (hx : t.ns[i]? = some x) : e = .returned (.int .i64 (i : Int)) ∧ ∃ v', BuSt w5 Bb v' (prefT t (i + 1)) ∧ Below Bb w3 w5 := by
  have hlen : (prefT t i).ns.length = i := by
    have := (List.getElem?_eq_some_iff.1 hx).1
    show (t.ns.take i).length = i
    rw [List.length_take]
    omega
  have hb5 := h.below hu
  obtain ⟨he, v', hv, -, -⟩ := h
  rw [hlen] at he
  rw [prefT_next hx] at hv
  exact ⟨he, v', hv, hb.trans hb5⟩
theorem told_keep {wr w4 w5 : World} {Bb : Nat} {v : Value} {t t' : Tr} {x : Nd} {e : Ending} (hr : BuSt wr Bb v t) (h : BuTold w4 Bb v t' x e w5) {C : Nat} (hC : wr.heap.size ≤ C) (hlt : C < w4.heap.size) : w5.heap[C]? = w4.heap[C]? := by
  obtain ⟨-, v', -, hf, -⟩ := h
  refine hf.block C hlt (fun e => ?_)
  have h1 := hr.1.lt
  rcases e with e | e
  · omega
  · obtain ⟨xs, _, hown, _⟩ := hr.2
    have := (hown.lt C e).2
    omega
theorem join_two {w w' : World} {Bb : Nat} {v : Value} {t : Tr} {k : Int} {ks : List Int} {e : Ending} (h : JoinTold w Bb v t k ks e w') (h2 : 2 ≤ ks.length) : BuTold w Bb v t { nd k with ks := ks } e w' := by
  unfold JoinTold at h
  rw [if_neg (by omega), if_neg (by omega)] at h
  exact h
set_option maxRecDepth 100000 in
set_option maxHeartbeats 8000000 in
theorem treeBuildsWalk (a0 : Option Addr) (len0 cap0 : Nat) (z0 : List Int) (w : World) (hG : Gt w) (w0 : L.IsRow .u8 w a0 len0 cap0 z0) : Calls Tryd.prog 6 #[.slice a0 len0 cap0] w fun e w' => e = .returned (.bool true) ∧ Below w.heap.size w w' := by
  obtain ⟨S, hS⟩ : ∃ S, w.heap.size = S := ⟨_, rfl⟩
  have htree := tree_any w w.heap.size a0 len0 cap0 (z0.take len0) (RI.of_row w0) (Nat.le_refl _) (row_u8 w0) (by have := row_len w0; omega)
  obtain ⟨t, ht⟩ : ∃ t, t = treeG (z0.take len0) := ⟨_, rfl⟩
  have hok := treeG_ok (z0.take len0)
  have hpl := plain_tree (z0.take len0)
  rw [← ht] at htree hok hpl
  rw [hS] at htree ⊢
  have HG : Hid (∀ w', Below S w w' → Gt w') := Lib.hid (fun w' hb => hG.next hb (by rw [← hS]; exact hG.lt))
  have HOK := Lib.hid hok
  have HPL := Lib.hid hpl
  have HSS := Lib.hid hS
  obtain ⟨⟨-, -, g3, g4⟩, hna, -, -, -, -⟩ := right_parts hok.1
  have HNA := Lib.hid hna
  clear hG w0 hok hpl hS ht hna g3 g4
  go_enter Tryd.func6, Tryd.ntmps6
  go_wp2_with fail
  refine htree.mono ?_
  rintro e w1 ⟨hb1, A, c, xs, rfl, hN1, -⟩
  obtain ⟨n, hn⟩ : ∃ n, n = t.ns.length := ⟨_, rfl⟩
  have HN := Lib.hid hn
  rw [← hn]
  clear hn
  obtain ⟨w2, hw2⟩ : ∃ w2, w2 = w1.alloc (.cells #[.slice A n c, .int .i64 t.g] 34) := ⟨_, rfl⟩
  have hb2 : Below w1.heap.size w1 w2 := by rw [hw2]; exact (Below.refl _ _).alloc (Nat.le_refl _) _
  obtain ⟨D, hD⟩ : ∃ D, w1.heap.size = D := ⟨_, rfl⟩
  have hr2 : Rw w2 D 34 #[.slice A n c, .int .i64 t.g] := by rw [hw2, ← hD]; exact heap_alloc_new w1 _
  have hS1 : S ≤ D := by have := hb1.size; have := HSS.out; omega
  have HB2 : Hid (Below S w w2) := Lib.hid (hb1.trans (hb2.mono (by rw [hD]; exact hS1)))
  have HN2 : Hid (NdsP w2 (fun b => b < D) A t.ns xs) := Lib.hid ((hN1.keep (below_cells (P := fun b => S ≤ b ∧ b < w1.heap.size) hb2 (fun b hb => hb.2))).mono fun b _ hb => by rw [← hD]; exact hb.2)
  have HR2 := Lib.hid hr2
  have hs2 : w2.heap.size = D + 1 := by rw [hw2, ← hD]; simp
  have hnew := bnew_any w2
  obtain ⟨Bb, hBb⟩ : ∃ Bb, w2.heap.size = Bb := ⟨_, rfl⟩
  rw [hBb] at hnew
  have HBB : Hid (Bb = D + 1 ∧ S ≤ D) := Lib.hid ⟨by omega, hS1⟩
  clear htree hb1 hN1 hb2 hr2 hS1 hs2
  go_upto_region 2 with fail
  rw [← hw2]
  clear hw2
  go_wp2_with fail
  refine hnew.mono ?_
  rintro e w3 ⟨rfl, hbu3, hb3, hs3⟩
  have HR3 := Lib.hid (HR2.out.on hb3 (by have := HBB.out; omega))
  have HN3 := Lib.hid (HN2.out.keep (below_cells (P := fun b => b < D) hb3 (fun b hb => by have := HBB.out; omega)))
  have HB3 : Hid (Below S w w3) := Lib.hid (HB2.out.trans (hb3.mono (by have := HBB.out; omega)))
  have H0 : Hid (∃ v, BuSt w3 Bb v (prefT t 0) ∧ Below Bb w3 w3) := Lib.hid ⟨_, hbu3, Below.refl _ _⟩
  have c0 : w3.cell? ⟨D, 0, none⟩ = some (.slice A n c) := HR3.out.cell (i := 0) rfl
  clear hnew hbu3 hb3 hs3 hBb
  go_wp2
  go_loopw [5] (fun iv wr => ∃ i : Nat, i ≤ n ∧ iv = .int .i64 i ∧ Hid (∃ v, BuSt wr Bb v (prefT t i) ∧ Below Bb w3 wr)) (fun iv _ => n - (intOf iv).toNat)
  case atStart => exact ⟨0, Nat.zero_le _, rfl, H0⟩
  case round =>
    clear H0 c0 hD
    obtain ⟨i, hin, rfl, HQ⟩ := hrel
    obtain ⟨v, hbu, hbw⟩ := HQ.out
    have r3 := HR3.out.on hbw (by have := HBB.out; omega)
    have c0 : wr.cell? ⟨D, 0, none⟩ = some (.slice A n c) := r3.cell (i := 0) rfl
    have c1 : wr.cell? ⟨D, 1, none⟩ = some (.int .i64 t.g) := r3.cell (i := 1) rfl
    have HBU := Lib.hid hbu
    have HBW := Lib.hid hbw
    by_cases hlt : i < n
    · obtain ⟨x, hx⟩ : ∃ x, t.ns[i]? = some x := ⟨_, List.getElem?_eq_getElem (by have := HN.out; omega)⟩
      obtain ⟨ad, vR, vT, vK, rfl, hadb, h9, hnd⟩ := (HN3.out.keep (below_cells (P := fun b => b < D) hbw (fun b hb => by have := HBB.out; omega))).at_ hx
      obtain ⟨⟨AR, cR, rfl, pR⟩, ⟨AT, cT, xT, rfl, pT⟩, ⟨AK, cK, rfl, pK⟩⟩ := hnd
      have hnd : NdP wr (fun b => b < D) x (.slice AR x.rs.length cR) (.slice AT x.ts.length cT) (.slice AK x.ks.length cK) := ⟨⟨AR, cR, rfl, pR⟩, ⟨AT, cT, xT, rfl, pT⟩, ⟨AK, cK, rfl, pK⟩⟩
      clear pR pT pK
      have d0 := h9.c0
      have d1 := h9.c1
      have d2 := h9.c2
      have d3 := h9.c3
      have d4 := h9.c4
      have d5 := h9.c5
      have d6 := h9.c6
      have d7 := h9.c7
      have d8 := h9.c8
      obtain ⟨C, hC⟩ : ∃ C, wr.heap.size = C := ⟨_, rfl⟩
      obtain ⟨w4, hw4⟩ : ∃ w4, w4 = wr.alloc (.cells #[.int .u8 x.k, .int .i32 x.c, .bool x.nt, (.slice AR x.rs.length cR), (.slice AT x.ts.length cT), .int .i64 x.n, .int .i64 x.mn, .int .i64 x.mx, (.slice AK x.ks.length cK)] 31) := ⟨_, rfl⟩
      have hb4 : Below wr.heap.size wr w4 := by rw [hw4]; exact (Below.refl _ _).alloc (Nat.le_refl _) _
      have hro : Rw w4 C 31 (ndRow x (.slice AR x.rs.length cR) (.slice AT x.ts.length cT) (.slice AK x.ks.length cK)).toArray := by rw [hw4, ← hC]; exact heap_alloc_new wr _
      have hbl := hbu.1.lt
      have HBU4 := Lib.hid (hbu.next hb4)
      have HB4 : Hid (Below Bb w3 w4) := Lib.hid (hbw.trans (hb4.mono (by omega)))
      have HND : Hid (NdP w4 (fun b => b < D) x (.slice AR x.rs.length cR) (.slice AT x.ts.length cT) (.slice AK x.ks.length cK)) := Lib.hid (hnd.keep (below_cells (P := fun b => b < D) hb4 (fun b hb => by have := HBB.out; omega)))
      have HRO := Lib.hid hro
      have HCS : Hid (wr.heap.size = C ∧ w4.heap.size = C + 1 ∧ Bb < C) := Lib.hid ⟨hC, by rw [hw4, ← hC]; simp, by omega⟩
      have k0 : w4.cell? ⟨C, 0, none⟩ = some (.int .u8 x.k) := hro.cell (i := 0) rfl
      have k1 : w4.cell? ⟨C, 1, none⟩ = some (.int .i32 x.c) := hro.cell (i := 1) rfl
      have k2 : w4.cell? ⟨C, 2, none⟩ = some (.bool x.nt) := hro.cell (i := 2) rfl
      have k3 : w4.cell? ⟨C, 3, none⟩ = some (.slice AR x.rs.length cR) := hro.cell (i := 3) rfl
      have k4 : w4.cell? ⟨C, 4, none⟩ = some (.slice AT x.ts.length cT) := hro.cell (i := 4) rfl
      have k5 : w4.cell? ⟨C, 5, none⟩ = some (.int .i64 x.n) := hro.cell (i := 5) rfl
      have k6 : w4.cell? ⟨C, 6, none⟩ = some (.int .i64 x.mn) := hro.cell (i := 6) rfl
      have k7 : w4.cell? ⟨C, 7, none⟩ = some (.int .i64 x.mx) := hro.cell (i := 7) rfl
      have k8 : w4.cell? ⟨C, 8, none⟩ = some (.slice AK x.ks.length cK) := hro.cell (i := 8) rfl
      have hnb : nodeB x t.g = true := by
        have h := HNA.out i (by have := HN.out; omega)
        unfold nodeAt at h
        rw [hx] at h
        simp only [Bool.and_eq_true] at h
        exact h.1
      have HBARE := Lib.hid (nodeB_bare hnb)
      have hmem : x ∈ t.ns := List.mem_of_getElem? hx
      have HPX : Hid ((x.ts = [] ∧ x.rs.length ≤ 1) ∧ x.ks.length ≤ 200) := Lib.hid ⟨HPL.out x hmem, kids_few HOK.out.1 hmem⟩
      have HPS : Hid ((prefT t i).ns.length ≤ 1000 ∧ 0 ≤ (prefT t i).g ∧ (prefT t i).g ≤ 1000) := Lib.hid (pref_size HOK.out.2.1)
      have HX := Lib.hid hx
      have wi : IntKind.i64.wrap ((i : Int) + 1) = (i : Int) + 1 := by rw [IntKind.wrap_i64]; have := HOK.out.2.1; have := HN.out; omega
      clear r3 c1 hadb h9 hnd hb4 hro hbl hnb hmem hx hbu hbw
      go_upto_block 2 with fail
      rw [← hw4]
      clear hw4 d0 d1 d2 d3 d4 d5 d6 d7 d8 c0 hC
      go_cut [7] (fun kv wx => kv = .int .i64 i ∧ Hid (∃ v', BuSt wx Bb v' (prefT t (i + 1)) ∧ Below Bb w3 wx))
      case first =>
        by_cases h7 : x.k = 7
        · obtain ⟨hxe, hkl⟩ := HBARE.out.1 h7
          obtain ⟨k0', hks⟩ : ∃ k0', x.ks = [k0'] := List.length_eq_one_iff.1 hkl
          obtain ⟨AK', cK', hvK, hri, -⟩ := HND.out.2.2
          cases hvK
          obtain ⟨ak, rfl, hakb, hac⟩ := hri.2 (by rw [hks]; simp)
          have q0 : w4.cell? ak = some (.int .i64 k0') := by
            have h := hac 0 k0' (by rw [hks]; rfl)
            rwa [show ak.add 0 = ak from by unfold Addr.add; rw [if_pos rfl]] at h
          rw [hkl] at k8
          have HAK : Hid (ak.block < D) := Lib.hid hakb
          have HXE : Hid ({ nd 7 with n := x.n, ks := [k0'] } = x) := Lib.hid (by rw [← hks]; exact hxe.symm)
          have HBD : Hid (BuSt w4.drew Bb v (prefT t i) ∧ Below w4.heap.size w4 w4.drew) := Lib.hid ⟨HBU4.out.next (below_drew (Below.refl _ _)), below_drew (Below.refl _ _)⟩
          have hc := bgroup_any w4.drew Bb v (prefT t i) x.n k0' HBD.out.1 HPS.out.1 HPS.out.2
          have e7 : (x.k == 7) = true := by rw [h7]; rfl
          clear h7
          have hS1 : (fun W' : World => W'.cell? ⟨C, 5, none⟩ = some (.int .i64 x.n) ∧ W'.cell? ⟨C, 8, none⟩ = some (.slice (some ak) 1 cK) ∧ W'.cell? ak = some (.int .i64 k0')) w4.drew := ⟨k5, k8, q0⟩
          clear hxe hkl hks hri hakb hac
          go_upto_region 13 with fail
          refine wp_region_held (S := (fun W' : World => W'.cell? ⟨C, 5, none⟩ = some (.int .i64 x.n) ∧ W'.cell? ⟨C, 8, none⟩ = some (.slice (some ak) 1 cK) ∧ W'.cell? ak = some (.int .i64 k0'))) (by kernel_rfl) ?_
          change wpAnyH _ _ _ _ _ _ _ _ w4.drew
          iterate 7 (refine wpH rfl rfl ?_; try simp only [Act.put, g1, g2, g3, g4, g5, g6])
          refine wpAnyH_one (i := 7) (by kernel_rfl) rfl (fun K hK => ?_)
          simp only [g4, g5, g6]
          go_simp
          go_at_call 14
          with_reducible refine hc.mono ?_
          rintro e w5 h5
          rw [HXE.out] at h5
          have hb5 := h5.below HBD.out.1
          have hC5 : w5.heap[C]? = w4.heap[C]? := told_keep HBU.out h5 (by have := HCS.out; omega) (by show C < w4.heap.size; have := HCS.out; omega)
          have hro5 : Rw w5 C 31 (ndRow x (.slice AR x.rs.length cR) (.slice AT x.ts.length cT) (.slice (some ak) x.ks.length cK)).toArray := hC5.trans HRO.out
          have hkl' : x.ks.length = 1 := by rw [← HXE.out]; rfl
          rw [hkl'] at hro5
          obtain ⟨rfl, hv⟩ := told_next h5 HBD.out.1 (HB4.out.trans (HBD.out.2.mono (by have := HCS.out; omega))) HX.out
          have hq5 : w5.cell? ak = some (.int .i64 k0') := (hb5.cell (p := ak) (by have := HAK.out; have := HBB.out; omega)).trans q0
          have hS5 : (fun W' : World => W'.cell? ⟨C, 5, none⟩ = some (.int .i64 x.n) ∧ W'.cell? ⟨C, 8, none⟩ = some (.slice (some ak) 1 cK) ∧ W'.cell? ak = some (.int .i64 k0')) w5 := ⟨hro5.cell (i := 5) rfl, hro5.cell (i := 8) rfl, hq5⟩
          have HV := Lib.hid hv
          refine hK.out _ _ hS5 (fun _ => ?_)
          clear hK hc h5 hb5 hC5 hro5 hkl' hq5 hv hS1
          try simp only [Act.put, g1, g2, g3, g4, g5, g6]
          refine wpAnyH_one (i := 8) (by kernel_rfl) rfl (fun K hK => ?_)
          simp only [g4, g5, g6]
          go_simp
          refine hK.out _ _ hS5 (fun _ => ?_)
          clear hK
          try simp only [Act.put, g1, g2, g3, g4, g5, g6]
          refine wpAnyH_done (by kernel_rfl) ?_ _
          clear hS5
          go_wp2
          go_meet
          exact ⟨rfl, HV⟩
        · have e7 : (x.k == 7) = false := beq_eq_false_iff_ne.2 h7
          by_cases h8 : x.k = 8
          · obtain ⟨hxe, hk2⟩ := HBARE.out.2.1 (.inl h8)
            have hc := brow_any w4 (fun b => b < D) Bb v (prefT t i) x.ks (.slice AK x.ks.length cK) HBU4.out HND.out.2.2 (fun b hb => by have := HBB.out; have := HCS.out; omega) (by have := HPX.out; omega) HPS.out.1 HPS.out.2
            have HXE : Hid ({ nd 8 with ks := x.ks } = x) := Lib.hid (by rw [← h8]; exact hxe.symm)
            have HK2 := Lib.hid hk2
            have e8 : (x.k == 8) = true := by rw [h8]; rfl
            clear hxe hk2 h7 h8
            go_wp2_with fail
            refine hc.mono ?_
            rintro e w5 h5
            have h6 := join_two h5 HK2.out
            rw [HXE.out] at h6
            obtain ⟨rfl, hv⟩ := told_next h6 HBU4.out HB4.out HX.out
            clear hc h5 h6
            have HV := Lib.hid hv
            clear hv
            go_wp2
            go_meet
            exact ⟨rfl, HV⟩
          · have e8 : (x.k == 8) = false := beq_eq_false_iff_ne.2 h8
            by_cases h9 : x.k = 9
            · obtain ⟨hxe, hk2⟩ := HBARE.out.2.1 (.inr h9)
              have hc := beither_any w4 (fun b => b < D) Bb v (prefT t i) x.ks (.slice AK x.ks.length cK) HBU4.out HND.out.2.2 (fun b hb => by have := HBB.out; have := HCS.out; omega) (by have := HPX.out; omega) HPS.out.1 HPS.out.2
              have HXE : Hid ({ nd 9 with ks := x.ks } = x) := Lib.hid (by rw [← h9]; exact hxe.symm)
              have HK2 := Lib.hid hk2
              have e9 : (x.k == 9) = true := by rw [h9]; rfl
              clear hxe hk2 h7 h8 h9
              go_wp2_with fail
              refine hc.mono ?_
              rintro e w5 h5
              have h6 := join_two h5 HK2.out
              rw [HXE.out] at h6
              obtain ⟨rfl, hv⟩ := told_next h6 HBU4.out HB4.out HX.out
              clear hc h5 h6
              have HV := Lib.hid hv
              clear hv
              go_wp2
              go_meet
              exact ⟨rfl, HV⟩
            · have e9 : (x.k == 9) = false := beq_eq_false_iff_ne.2 h9
              by_cases h10 : x.k = 10
              · obtain ⟨hxe, hkl⟩ := HBARE.out.2.2 h10
                obtain ⟨k0', hks⟩ : ∃ k0', x.ks = [k0'] := List.length_eq_one_iff.1 hkl
                obtain ⟨AK', cK', hvK, hri, -⟩ := HND.out.2.2
                cases hvK
                obtain ⟨ak, rfl, hakb, hac⟩ := hri.2 (by rw [hks]; simp)
                have q0 : w4.cell? ak = some (.int .i64 k0') := by
                  have h := hac 0 k0' (by rw [hks]; rfl)
                  rwa [show ak.add 0 = ak from by unfold Addr.add; rw [if_pos rfl]] at h
                rw [hkl] at k8
                have HAK : Hid (ak.block < D) := Lib.hid hakb
                have HXE : Hid ({ nd 10 with mn := x.mn, mx := x.mx, ks := [k0'] } = x) := Lib.hid (by rw [← hks]; exact hxe.symm)
                have HBD : Hid (BuSt w4.drew Bb v (prefT t i) ∧ Below w4.heap.size w4 w4.drew) := Lib.hid ⟨HBU4.out.next (below_drew (Below.refl _ _)), below_drew (Below.refl _ _)⟩
                have hc := btimes_any w4.drew Bb v (prefT t i) k0' x.mn x.mx HBD.out.1 HPS.out.1 HPS.out.2
                have e10 : (x.k == 10) = true := by rw [h10]; rfl
                clear h7 h8 h9 h10
                have hS1 : (fun W' : World => W'.cell? ⟨C, 6, none⟩ = some (.int .i64 x.mn) ∧ W'.cell? ⟨C, 7, none⟩ = some (.int .i64 x.mx) ∧ W'.cell? ⟨C, 8, none⟩ = some (.slice (some ak) 1 cK) ∧ W'.cell? ak = some (.int .i64 k0')) w4.drew := ⟨k6, k7, k8, q0⟩
                clear hxe hkl hks hri hakb hac
                go_upto_region 19 with fail
                refine wp_region_held (S := (fun W' : World => W'.cell? ⟨C, 6, none⟩ = some (.int .i64 x.mn) ∧ W'.cell? ⟨C, 7, none⟩ = some (.int .i64 x.mx) ∧ W'.cell? ⟨C, 8, none⟩ = some (.slice (some ak) 1 cK) ∧ W'.cell? ak = some (.int .i64 k0'))) (by kernel_rfl) ?_
                change wpAnyH _ _ _ _ _ _ _ _ w4.drew
                iterate 9 (refine wpH rfl rfl ?_; try simp only [Act.put, g1, g2, g3, g4, g5, g6])
                refine wpAnyH_one (i := 9) (by kernel_rfl) rfl (fun K hK => ?_)
                simp only [g4, g5, g6]
                go_simp
                go_at_call 17
                with_reducible refine hc.mono ?_
                rintro e w5 h5
                rw [HXE.out] at h5
                have hb5 := h5.below HBD.out.1
                have hC5 : w5.heap[C]? = w4.heap[C]? := told_keep HBU.out h5 (by have := HCS.out; omega) (by show C < w4.heap.size; have := HCS.out; omega)
                have hro5 : Rw w5 C 31 (ndRow x (.slice AR x.rs.length cR) (.slice AT x.ts.length cT) (.slice (some ak) x.ks.length cK)).toArray := hC5.trans HRO.out
                have hkl' : x.ks.length = 1 := by rw [← HXE.out]; rfl
                rw [hkl'] at hro5
                obtain ⟨rfl, hv⟩ := told_next h5 HBD.out.1 (HB4.out.trans (HBD.out.2.mono (by have := HCS.out; omega))) HX.out
                have hq5 : w5.cell? ak = some (.int .i64 k0') := (hb5.cell (p := ak) (by have := HAK.out; have := HBB.out; omega)).trans q0
                have hS5 : (fun W' : World => W'.cell? ⟨C, 6, none⟩ = some (.int .i64 x.mn) ∧ W'.cell? ⟨C, 7, none⟩ = some (.int .i64 x.mx) ∧ W'.cell? ⟨C, 8, none⟩ = some (.slice (some ak) 1 cK) ∧ W'.cell? ak = some (.int .i64 k0')) w5 := ⟨hro5.cell (i := 6) rfl, hro5.cell (i := 7) rfl, hro5.cell (i := 8) rfl, hq5⟩
                have HV := Lib.hid hv
                refine hK.out _ _ hS5 (fun _ => ?_)
                clear hK hc h5 hb5 hC5 hro5 hkl' hq5 hv hS1
                try simp only [Act.put, g1, g2, g3, g4, g5, g6]
                refine wpAnyH_one (i := 10) (by kernel_rfl) rfl (fun K hK => ?_)
                simp only [g4, g5, g6]
                go_simp
                refine hK.out _ _ hS5 (fun _ => ?_)
                clear hK
                try simp only [Act.put, g1, g2, g3, g4, g5, g6]
                refine wpAnyH_done (by kernel_rfl) ?_ _
                clear hS5
                go_wp2
                go_meet
                exact ⟨rfl, HV⟩
              · have e10 : (x.k == 10) = false := beq_eq_false_iff_ne.2 h10
                have hc := bleaf_any w4 (fun b => b < D) Bb v (prefT t i) x (.slice AR x.rs.length cR) (.slice AT x.ts.length cT) (.slice AK x.ks.length cK) HBU4.out HND.out (fun b hb => by have := HBB.out; have := HCS.out; omega) HPX.out.1.1 (by have := HPX.out; omega) (by have := HPX.out; omega) HPS.out.1 HPS.out.2
                unfold ndVal at hc
                clear h7 h8 h9 h10
                go_wp2_with fail
                refine hc.mono ?_
                rintro e w5 h5
                obtain ⟨rfl, hv⟩ := told_next h5 HBU4.out HB4.out HX.out
                clear hc h5
                have HV := Lib.hid hv
                clear hv
                go_wp2
                go_meet
                exact ⟨rfl, HV⟩
      case rest =>
        generalize wc = w5 at *
        obtain ⟨rfl, HV⟩ := hcut
        clear k0 k1 k2 k3 k4 k5 k6 k7 k8
        go_wp2
        go_roundw
        case rel => exact ⟨i + 1, by omega, by go_num, HV⟩
        case measure => simp [intOf]; omega
    · obtain rfl : i = n := by omega
      have hbt : BuSt wr Bb v t := by
        have h := hbu
        rw [HN.out, prefT_all HOK.out.1] at h
        exact h
      have HBT := Lib.hid hbt
      have htr := btree_any wr Bb v t hbt (fun x hx => ⟨(HPL.out x hx).1, by have := (HPL.out x hx).2; omega, by have := kids_few HOK.out.1 hx; omega⟩) (by have := HOK.out.2.1; omega)
      have HNR : Hid (NdsP wr (fun b => b < D) A t.ns xs) := Lib.hid (HN3.out.keep (below_cells (P := fun b => b < D) hbw (fun b hb => by have := HBB.out; omega)))
      have HRR := Lib.hid r3
      have HBL : Hid (Bb < wr.heap.size) := Lib.hid hbu.1.lt
      clear hbt r3 hbu hbw
      go_wp2_with fail
      refine htr.mono ?_
      intro e w5 h5
      clear c0 c1
      obtain ⟨A2, c2, ys, rfl, hM5, hb5⟩ := h5.parts
      rw [← HN.out]
      obtain ⟨E, hE⟩ : ∃ E, w5.heap.size = E := ⟨_, rfl⟩
      obtain ⟨w6, hw6⟩ : ∃ w6, w6 = w5.alloc (.cells #[.slice A2 i c2, .int .i64 t.g] 34) := ⟨_, rfl⟩
      have hb6 : Below w5.heap.size w5 w6 := by rw [hw6]; exact (Below.refl _ _).alloc (Nat.le_refl _) _
      have hs6 : w6.heap.size = E + 1 := by rw [hw6, ← hE]; simp
      have hr6 : Rw w6 E 34 #[.slice A2 i c2, .int .i64 t.g] := by rw [hw6, ← hE]; exact heap_alloc_new w5 _
      have hbE := hb5.size
      have HDE : Hid (D < E ∧ Bb < E ∧ w6.heap.size = E + 1) := Lib.hid ⟨by have := HBB.out; have := HBL.out; omega, by have := HBL.out; omega, hs6⟩
      have hN5 : NdsP w5 (fun b => b < E) A t.ns xs := (HNR.out.keep (below_cells (P := fun b => b < D) hb5 (fun b hb => by have := HBB.out; have := HBL.out; omega))).mono fun b _ hb => by have := HDE.out; omega
      have HM6 : Hid (NdsP w6 (fun b => b < E) A2 t.ns ys) := Lib.hid ((hM5.mono (Q := fun b => b < E) (fun b _ hb => by rw [← hE]; exact hb.2)).keep (below_cells (P := fun b => b < E) hb6 (fun b hb => by rw [hE]; exact hb)))
      have HN6 : Hid (NdsP w6 (fun b => b < E) A t.ns xs) := Lib.hid (hN5.keep (below_cells (P := fun b => b < E) hb6 (fun b hb => by rw [hE]; exact hb)))
      have HRD : Hid (Rw w6 D 34 #[.slice A i c, .int .i64 t.g]) := Lib.hid ((HRR.out.on hb5 (by have := HBB.out; have := HBL.out; omega)).on hb6 (by have := HDE.out; omega))
      have HRE := Lib.hid hr6
      have HB6 : Hid (Below S w w6) := Lib.hid ((((HB3.out.trans (HBW.out.mono (by have := HBB.out; omega))).trans (hb5.mono (by have := HBB.out; have := HBL.out; omega)))).trans (hb6.mono (by have := HBB.out; have := HDE.out; omega)))
      have c0 : w6.cell? ⟨D, 0, none⟩ = some (.slice A i c) := HRD.out.cell (i := 0) rfl
      have c1 : w6.cell? ⟨D, 1, none⟩ = some (.int .i64 t.g) := HRD.out.cell (i := 1) rfl
      have e0 : w6.cell? ⟨E, 0, none⟩ = some (.slice A2 i c2) := hr6.cell (i := 0) rfl
      have e1 : w6.cell? ⟨E, 1, none⟩ = some (.int .i64 t.g) := hr6.cell (i := 1) rfl
      have hsame := same_yesT w6 (fun b => b < E) A A2 c c2 t xs ys HN6.out HM6.out (fun b hb => by have := HDE.out; omega) (fun x hx => (HPL.out x hx).1) (by have := HOK.out.2.1; omega)
      rw [← HN.out] at hsame
      clear htr hM5 hb5 hb6 hs6 hr6 hbE hN5
      go_upto_region 23 with fail
      rw [← hw6]
      clear hw6 hE
      go_wp2_with fail
      refine hsame.mono ?_
      rintro e w7 ⟨rfl, hb7⟩
      have HB7 : Hid (Below S w w7) := Lib.hid (HB6.out.trans (hb7.mono (by have := HBB.out; have := HDE.out; omega)))
      have HR7 := Lib.hid (HRE.out.on hb7 HRE.out.lt)
      have HM7 := Lib.hid (HM6.out.keep (below_cells (P := fun b => b < E) hb7 (fun b hb => by have := HDE.out; omega)))
      have HS7 : Hid (E < w7.heap.size) := Lib.hid HR7.out.lt
      have hkn := known_any w7 (HG.out _ HB7.out)
      clear hsame hb7 c0 c1 e0 e1
      go_wp2_with fail
      refine hkn.mono ?_
      rintro e w8 ⟨rfl, hb8⟩
      have HB8 : Hid (Below S w w8) := Lib.hid (HB7.out.trans (hb8.mono (by have := HBB.out; have := HDE.out; have := HS7.out; omega)))
      have hr8 := HR7.out.on hb8 HR7.out.lt
      have hM8 := HM7.out.keep (below_cells (P := fun b => b < E) hb8 (fun b hb => by have := HS7.out; omega))
      have e0 : w8.cell? ⟨E, 0, none⟩ = some (.slice A2 i c2) := hr8.cell (i := 0) rfl
      have e1 : w8.cell? ⟨E, 1, none⟩ = some (.int .i64 t.g) := hr8.cell (i := 1) rfl
      have HS8 : Hid (E < w8.heap.size) := Lib.hid hr8.lt
      have hright := treeRight_any w8 (fun b => b < E) A2 c2 t ys hM8 (fun b hb => by have := HS8.out; omega) (by have := HOK.out.2.1; unfold maxLen; omega)
      rw [HOK.out.1, ← HN.out] at hright
      clear hkn hb8 hr8 hM8
      go_wp2_with fail
      refine hright.mono ?_
      rintro e w9 ⟨rfl, hb9⟩
      have HE : Hid (Below S w w9) := Lib.hid (HB8.out.trans (hb9.mono (by have := HBB.out; have := HDE.out; have := HS8.out; omega)))
      clear hright hb9 e0 e1
      go_wp2
      go_ret
      exact ⟨by first | rfl | simp, HE.out⟩
end Go.Proofs.YtcpjcepeiplfgaaDoor.C
