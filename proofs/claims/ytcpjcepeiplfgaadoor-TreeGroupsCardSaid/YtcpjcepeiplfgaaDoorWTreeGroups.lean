/-
  TreeGroups: in a tree that may be each number of a group is there once, and each node but the top is another one's. Condition: what the listed variables hold.
-/
import Derived.Test.YtcpjcepeiplfgaaDoorTdB
import Derived.Test.YtcpjcepeiplfgaaDoorTaE
import Derived.Test.YtcpjcepeiplfgaaDoorTeQ
namespace Go.Proofs.YtcpjcepeiplfgaaDoor.C
open Go.RowKit

set_option maxRecDepth 100000 in
set_option maxHeartbeats 8000000 in
theorem treeGroupsWalk (a0 : Option Addr) (len0 cap0 : Nat) (z0 : List Int) (w : World) (hG : Gt w) (w0 : L.IsRow .u8 w a0 len0 cap0 z0) : Calls Tryd.prog 8 #[.slice a0 len0 cap0] w fun e w' => e = .returned (.bool true) ∧ Below w.heap.size w w' := by
  obtain ⟨S, hS⟩ : ∃ S, w.heap.size = S := ⟨_, rfl⟩
  have htree := tree_any w w.heap.size a0 len0 cap0 (z0.take len0) (RI.of_row w0) (Nat.le_refl _) (row_u8 w0) (by have := row_len w0; omega)
  obtain ⟨t, ht⟩ : ∃ t, t = treeG (z0.take len0) := ⟨_, rfl⟩
  have hok := treeG_ok (z0.take len0)
  rw [← ht] at htree hok
  rw [hS] at htree ⊢
  have HG : Hid (∀ w', Below S w w' → Gt w') := Lib.hid (fun w' hb => hG.next hb (by rw [← hS]; exact hG.lt))
  have HOK := Lib.hid hok
  have HSS := Lib.hid hS
  obtain ⟨⟨g1, g2, g3, g4⟩, hna, -, hkl, -, -⟩ := right_parts hok.1
  have HPT := Lib.hid (And.intro hna hkl)
  have HGR : Hid (∀ i : Nat, i < t.g.toNat → grpN t.ns ((i : Int) + 1) = 1) := Lib.hid (by
    have h := hok.1
    unfold rightT at h
    simp only [Bool.and_eq_true, decide_eq_true_eq, List.all_eq_true, List.mem_range, beq_iff_eq] at h
    exact h.2)
  have HB := Lib.hid (And.intro (And.intro g1 g2) (And.intro g3 g4))
  clear hG w0 hok hS ht hna hkl g1 g2 g3 g4
  go_enter Tryd.func8, Tryd.ntmps8
  go_wp2_with fail
  refine htree.mono ?_
  rintro e w1 ⟨hb1, A, c, xs, rfl, hN1, -⟩
  obtain ⟨n, hn⟩ : ∃ n, n = t.ns.length := ⟨_, rfl⟩
  have HN := Lib.hid hn
  rw [← hn]
  clear hn
  obtain ⟨w2, hw2⟩ : ∃ w2, w2 = w1.alloc (.cells #[.slice A n c, .int .i64 t.g] 34) := ⟨_, rfl⟩
  have hb2 : Below w1.heap.size w1 w2 := by rw [hw2]; exact (Below.refl _ _).alloc (Nat.le_refl _) _
  have hr2 : Rw w2 w1.heap.size 34 #[.slice A n c, .int .i64 t.g] := by rw [hw2]; exact heap_alloc_new w1 _
  have hS1 : S ≤ w1.heap.size := by have := hb1.size; have := HSS.out; omega
  have HB2 : Hid (Below S w w2) := Lib.hid (hb1.trans (hb2.mono hS1))
  have HN2 : Hid (NdsP w2 (fun b => b < w1.heap.size) A t.ns xs) := Lib.hid ((hN1.keep (below_cells (P := fun b => S ≤ b ∧ b < w1.heap.size) hb2 (fun b hb => hb.2))).mono fun b _ hb => hb.2)
  have HR2 := Lib.hid hr2
  have HS1 := Lib.hid hS1
  have c0 : w2.cell? ⟨w1.heap.size, 0, none⟩ = some (.slice A n c) := hr2.cell (i := 0) rfl
  have c1 : w2.cell? ⟨w1.heap.size, 1, none⟩ = some (.int .i64 t.g) := hr2.cell (i := 1) rfl
  have hs2 : w2.heap.size = w1.heap.size + 1 := by rw [hw2]; simp
  have HSZ2 := Lib.hid hs2
  have hright := treeRight_any w2 (fun b => b < w1.heap.size) A c t xs HN2.out (fun b hb => by omega) (by have := HOK.out.2.1; unfold maxLen; omega)
  rw [HOK.out.1, ← HN.out] at hright
  clear htree hb1 hN1 hb2 hr2 hS1 hs2
  go_upto_region 2 with fail
  rw [← hw2]
  clear hw2
  go_wp2_with fail
  refine hright.mono ?_
  rintro e w3 ⟨rfl, hb3⟩
  have HB3 : Hid (Below S w w3) := Lib.hid (HB2.out.trans (hb3.mono (by have := HSZ2.out; have := HS1.out; omega)))
  have HR3 := Lib.hid (HR2.out.on hb3 HR2.out.lt)
  have HN3 := Lib.hid (HN2.out.keep (below_cells (P := fun b => b < w1.heap.size) hb3 (fun b hb => by have := HSZ2.out; omega)))
  obtain ⟨NB, hNB⟩ : ∃ NB, w3.heap.size = NB := ⟨_, rfl⟩
  have HNB : Hid (w1.heap.size < NB ∧ S < NB) := Lib.hid (by have := hb3.size; have := HSZ2.out; have := HS1.out; omega)
  obtain ⟨w4, hw4⟩ : ∃ w4, w4 = w3.alloc (.cells #[.int .i64 0, .int .i64 0, .int .i64 0, .int .i64 0, .int .i64 0, .int .i64 0, .int .i64 0, .int .i64 0, .int .i64 0, .int .i64 0] 51) := ⟨_, rfl⟩
  have H0 : Hid (Below NB w3 w4 ∧ Rw w4 NB 51 (cntRow (t.ns.take 0)).toArray) := Lib.hid ⟨by rw [hw4, ← hNB]; exact (Below.refl _ _).alloc (Nat.le_refl _) _, by
    have h := heap_alloc_new w3 (.cells #[.int .i64 0, .int .i64 0, .int .i64 0, .int .i64 0, .int .i64 0, .int .i64 0, .int .i64 0, .int .i64 0, .int .i64 0, .int .i64 0] 51)
    rw [hNB, ← hw4] at h
    exact h⟩
  have HNBE := Lib.hid hNB
  clear hright hb3 c0 c1
  go_upto_region 5 with fail
  rw [← hw4]
  clear hw4 hNB
  go_wp2
  go_loopw [5, 6] (fun kv iv wr => ∃ i : Nat, i ≤ n ∧ iv = .int .i64 i ∧ kv = .int .i64 ((kidsOf (t.ns.take i)).length : Nat) ∧ Hid (Below NB w3 wr ∧ Rw wr NB 51 (cntRow (t.ns.take i)).toArray)) (fun _ iv _ => n - (intOf iv).toNat)
  case atStart => exact ⟨0, Nat.zero_le _, rfl, by simp [kidsOf], H0⟩
  case round =>
    clear H0
    obtain ⟨i, hin, rfl, rfl, HQ⟩ := hrel
    have r3 := HR3.out.on HQ.out.1 HNB.out.1
    have c0 : wr.cell? ⟨w1.heap.size, 0, none⟩ = some (.slice A n c) := r3.cell (i := 0) rfl
    have c1 : wr.cell? ⟨w1.heap.size, 1, none⟩ = some (.int .i64 t.g) := r3.cell (i := 1) rfl
    by_cases hlt : i < n
    · obtain ⟨x, hx⟩ : ∃ x, t.ns[i]? = some x := ⟨_, List.getElem?_eq_getElem (by have := HN.out; omega)⟩
      obtain ⟨ad, vR, vT, vK, rfl, -, h9, hnd⟩ := (HN3.out.keep (below_cells (P := fun b => b < w1.heap.size) HQ.out.1 (fun b hb => by have := HNB.out.1; omega))).at_ hx
      have d0 := h9.c0
      have d5 := h9.c5
      have d8 := h9.c8
      obtain ⟨-, -, ⟨AK, cK, rfl, -, hkm⟩⟩ := hnd
      have hna := HPT.out.1 i (by have := HN.out; omega)
      unfold nodeAt at hna
      rw [hx] at hna
      simp only [Bool.and_eq_true] at hna
      have wi : IntKind.i64.wrap ((i : Int) + 1) = (i : Int) + 1 := by rw [IntKind.wrap_i64]; have := HB.out.1.2; have := HN.out; omega
      have hkt : (kidsOf (t.ns.take (i + 1))).length = (kidsOf (t.ns.take i)).length + x.ks.length := by rw [take_nd hx, kidsOf_snoc, List.length_append]
      have hkb : (kidsOf (t.ns.take (i + 1))).length ≤ 200 := by
        have h1 := HPT.out.2
        have h2 : (kidsOf (t.ns.take (i + 1))).length ≤ (kidsOf t.ns).length := by
          have : (kidsOf t.ns).length = (kidsOf (t.ns.take (i + 1))).length + (kidsOf (t.ns.drop (i + 1))).length := by
            unfold kidsOf
            rw [← List.length_append, ← List.flatMap_append, List.take_append_drop]
          omega
        have := HB.out.1.2
        omega
      obtain ⟨ka, hka⟩ : ∃ ka, ka = (kidsOf (t.ns.take i)).length := ⟨_, rfl⟩
      obtain ⟨kb, hkb'⟩ : ∃ kb, kb = x.ks.length := ⟨_, rfl⟩
      have wk : IntKind.i64.wrap ((ka : Int) + (kb : Int)) = (ka : Int) + (kb : Int) := by rw [IntKind.wrap_i64]; omega
      have HKT : Hid ((kidsOf (t.ns.take (i + 1))).length = ka + kb) := Lib.hid (by rw [hka, hkb']; exact hkt)
      rw [← hka]
      rw [← hkb'] at d8
      have HTK := Lib.hid (take_nd hx)
      clear h9 hkm hkt hkb hx r3 c1 hka hkb'
      by_cases h7 : x.k = 7
      · obtain ⟨m1, m2⟩ := nodeB_7 hna.1 h7
        obtain ⟨m, hm⟩ : ∃ m : Nat, x.n = (m : Int) := ⟨x.n.toNat, by omega⟩
        have hm10 : m < 10 := by have := HB.out.2.2; omega
        rw [hm] at d5
        obtain ⟨gc, hgc⟩ : ∃ gc, gc = grpN (t.ns.take i) (m : Int) := ⟨_, rfl⟩
        have q0 : wr.cell? ⟨NB, m, none⟩ = some (.int .i64 (gc : Int)) := by rw [hgc]; exact HQ.out.2.cell (cnt_at hm10)
        have f0 := rw_frozen HQ.out.2 m
        have hgb : gc ≤ 200 := by
          rw [hgc]
          unfold grpN
          have h1 := List.length_filter_le (fun x : Nd => decide (x.k = 7) && decide (x.n = (m : Int))) (t.ns.take i)
          have h2 : (t.ns.take i).length ≤ 200 := by rw [List.length_take]; have := HB.out.1.2; omega
          omega
        have wg : IntKind.i64.wrap ((gc : Int) + 1) = (gc : Int) + 1 := by rw [IntKind.wrap_i64]; omega
        have HE : Hid (Below NB w3 (wr.setCell ⟨NB, m, none⟩ (.int .i64 ((gc : Int) + 1))) ∧ Rw (wr.setCell ⟨NB, m, none⟩ (.int .i64 ((gc : Int) + 1))) NB 51 (cntRow (t.ns.take (i + 1))).toArray) := Lib.hid ⟨HQ.out.1.setCell (p := ⟨NB, m, none⟩) (Nat.le_refl _) _, by
          have h := set_row (i := m) (l := cntRow (t.ns.take i)) HQ.out.2 (.int .i64 ((gc : Int) + 1))
          rw [hgc, cnt_set h7 hm, ← HTK.out, ← hgc] at h
          exact h⟩
        have e7 : (x.k == 7) = true := by rw [h7]; rfl
        have hne : w1.heap.size ≠ NB := by have := HNB.out.1; omega
        have c0' : (wr.setCell ⟨NB, m, none⟩ (.int .i64 ((gc : Int) + 1))).cell? ⟨w1.heap.size, 0, none⟩ = some (.slice (some ad) n c) := (World.cell?_of_block (Below.heap_setCell wr ⟨NB, m, none⟩ _ w1.heap.size hne)).trans c0
        have d8' : (wr.setCell ⟨NB, m, none⟩ (.int .i64 ((gc : Int) + 1))).cell? ⟨(ad.add (i * 9)).block, (ad.add (i * 9)).off + 8, none⟩ = some (.slice AK kb cK) := by
          by_cases hb : (ad.add (i * 9)).block = NB
          · exfalso
            obtain ⟨ad2, _, _, _, hA, hP, _, _⟩ := (HN3.out).at_ (i := i) (x := x) (by
              have := HTK.out
              have h2 : (t.ns.take (i + 1))[i]? = some x := by rw [this, List.getElem?_append_right (by rw [List.length_take]; omega), List.length_take, show i - min i t.ns.length = 0 from by have := HN.out; omega]; rfl
              rw [List.getElem?_take] at h2
              split at h2
              · exact h2
              · cases h2)
            injection hA with hA
            subst hA
            rw [block_of_add] at hb
            have := HNB.out.1
            omega
          · have h : ∀ q : Addr, q.block = (ad.add (i * 9)).block → (wr.setCell ⟨NB, m, none⟩ (.int .i64 ((gc : Int) + 1))).cell? q = wr.cell? q := fun q hq => World.cell?_of_block (Below.heap_setCell wr ⟨NB, m, none⟩ _ q.block (by rw [hq]; exact hb))
            exact (h ⟨(ad.add (i * 9)).block, (ad.add (i * 9)).off + 8, none⟩ rfl).trans d8
        clear h7 hgc hgb hna m1 m2 hm
        have hm10' : (m : Int) < 10 := by omega
        go_wp2
        go_roundw
        case rel => exact ⟨i + 1, by omega, by go_num, by rw [HKT.out]; simp, HE⟩
        case measure => simp [intOf]; omega
      · have e7 : (x.k == 7) = false := beq_eq_false_iff_ne.2 h7
        have HE : Hid (Below NB w3 wr ∧ Rw wr NB 51 (cntRow (t.ns.take (i + 1))).toArray) := Lib.hid ⟨HQ.out.1, by rw [HTK.out, cnt_same h7]; exact HQ.out.2⟩
        clear h7 hna
        go_wp2
        go_roundw
        case rel => exact ⟨i + 1, by omega, by go_num, by rw [HKT.out]; simp, HE⟩
        case measure => simp [intOf]; omega
    · obtain rfl : i = n := by omega
      have hks : (kidsOf (t.ns.take i)).length = i - 1 := by rw [HN.out, List.take_length, ← HN.out]; have := HPT.out.2; rw [← HN.out] at this; exact this
      rw [hks]
      have hcr : Rw wr NB 51 (cntRow t.ns).toArray := by have := HQ.out.2; rwa [HN.out, List.take_length] at this
      have HCR := Lib.hid hcr
      have HBQ := Lib.hid HQ.out.1
      clear hks hcr
      obtain ⟨gg, hgg⟩ : ∃ gg : Nat, t.g = (gg : Int) := ⟨t.g.toNat, by have := HB.out.2.1; omega⟩
      have hg9 : gg ≤ 9 := by have := HB.out.2.2; omega
      have HGG := Lib.hid hgg
      rw [hgg] at c1
      clear r3 hgg
      go_wp2
      go_loopw [7] (fun jv wq => ∃ j : Nat, 1 ≤ j ∧ j ≤ gg + 1 ∧ jv = .int .i64 j ∧ wq = wr) (fun jv _ => gg + 1 - (intOf jv).toNat)
      case atStart => exact ⟨1, by omega, by omega, rfl, rfl⟩
      case round =>
        obtain ⟨j, hj1, hjg, rfl, rfl⟩ := hrel
        by_cases hle : j ≤ gg
        · have hg1 : grpN t.ns (j : Int) = 1 := by
            have := HGR.out (j - 1) (by have := HGG.out; omega)
            rw [show ((j - 1 : Nat) : Int) + 1 = (j : Int) from by omega] at this
            exact this
          have q0 : wr.cell? ⟨NB, j, none⟩ = some (.int .i64 1) := by
            have := HCR.out.cell (cnt_at (k := j) (by omega))
            rw [hg1] at this
            exact this
          have wj : IntKind.i64.wrap ((j : Int) + 1) = (j : Int) + 1 := by rw [IntKind.wrap_i64]; omega
          have hj10 : (j : Int) < 10 := by omega
          have hle' : (j : Int) ≤ (gg : Int) := by omega
          clear hg1
          go_wp2
          go_roundw
          case rel => exact ⟨j + 1, by omega, by omega, by go_num, by first | rfl | trivial⟩
          case measure => simp [intOf]; omega
        · have hle' : ¬ (j : Int) ≤ (gg : Int) := by omega
          have hbS : Below S w wr := HB3.out.trans (HBQ.out.mono (by have := HNB.out.2; omega))
          have hkn := known_any wr (HG.out _ hbS)
          have HBS := Lib.hid hbS
          have wn : IntKind.i64.wrap ((i : Int) - 1) = (i : Int) - 1 := by rw [IntKind.wrap_i64]; have := HB.out.1.2; have := HN.out; omega
          have hsz : S ≤ wr.heap.size := by have := hbS.size; have := HSS.out; omega
          have hrr := HR3.out.on HBQ.out HNB.out.1
          have hrl : w1.heap.size < wr.heap.size := hrr.lt
          have HRR := Lib.hid hrr
          have i1 : ((i - 1 : Nat) : Int) = (i : Int) - 1 := by have := HB.out.1.1; have := HN.out; omega
          rw [i1]
          clear hbS hrr i1
          go_wp2_with fail
          refine hkn.mono ?_
          rintro e w9 ⟨rfl, hb9⟩
          have c0 : w9.cell? ⟨w1.heap.size, 0, none⟩ = some (.slice A i c) := (HRR.out.on hb9 hrl).cell (i := 0) rfl
          have HE : Hid (Below S w w9) := Lib.hid (HBS.out.trans (hb9.mono hsz))
          clear hkn hb9
          go_wp2
          go_ret
          exact ⟨by simp, HE.out⟩
end Go.Proofs.YtcpjcepeiplfgaaDoor.C
