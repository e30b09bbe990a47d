/-
  The document's own set. No condition.
-/
import Derived.Test.YtcpjcepeiplfgaaDoorTeA
namespace Go.Proofs.YtcpjcepeiplfgaaDoor.C
open Go.RowKit

theorem mem_take_next {α : Type} {l : List α} {i : Nat} {x y : α} (hx : l[i]? = some x) (hy : y ∈ l.take (i + 1)) : y ∈ l.take i ∨ y = x := by
  rw [List.take_add_one, hx, List.mem_append] at hy
  rcases hy with h | h
  · exact .inl h
  · exact .inr (by simpa using h)
theorem setB_no1 {x : Nd} {r : Int × Int} (h : r ∈ x.rs) (hr : rngOk r = false) : setB x = false := by
  unfold setB
  rw [Bool.and_eq_false_iff]
  exact .inl (List.all_eq_false.2 ⟨r, h, by rw [hr]; decide⟩)
theorem setB_no2 {x : Nd} {t : List Int} (h : t ∈ x.ts) (ht : txtOk t = false) : setB x = false := by
  unfold setB
  rw [Bool.and_eq_false_iff]
  exact .inr (List.all_eq_false.2 ⟨t, h, by rw [ht]; decide⟩)
set_option maxRecDepth 100000 in
set_option maxHeartbeats 4000000 in
theorem refSet_any (w : World) (P : Nat → Prop) (x : Nd) (nb : Bool) (vR vT : Value) (h1 : PrsP w P vR x.rs) (h2 : TxsP w P vT x.ts) (hP : ∀ b, P b → b < w.heap.size) :
    Calls Tryd.prog 62 #[.agg #[.bool nb, vR, vT]] w fun e w' => e = .returned (.bool (setB x)) ∧ Below w.heap.size w w' := by
  obtain ⟨S, hS⟩ : ∃ S, w.heap.size = S := ⟨_, rfl⟩
  obtain ⟨W, hW⟩ : ∃ W, W = w.alloc (.cells #[.bool nb, vR, vT] 28) := ⟨_, rfl⟩
  have hb : Below w.heap.size w W := by rw [hW]; exact (Below.refl _ _).alloc (Nat.le_refl _) _
  have hro : Rw W S 28 #[.bool nb, vR, vT] := by rw [hW, ← hS]; exact heap_alloc_new w _
  have hPW : ∀ b, P b → b < W.heap.size := fun b hp => Nat.lt_of_lt_of_le (hP b hp) hb.size
  have H1 := Lib.hid (h1.keep (below_cells hb hP))
  have H2 := Lib.hid (h2.keep (below_cells hb hP))
  obtain ⟨A, c, rfl, -, hm1⟩ := h1
  obtain ⟨A2, c2, us, rfl, -, hm2, -⟩ := h2
  have HRO := Lib.hid hro
  have HP := Lib.hid hPW
  have HB : Hid (Below S w W) := Lib.hid (by rw [← hS]; exact hb)
  have HSW : Hid (S < W.heap.size) := Lib.hid hro.lt
  obtain ⟨n, hn⟩ : ∃ n, n = x.rs.length := ⟨_, rfl⟩
  obtain ⟨m, hm⟩ : ∃ m, m = x.ts.length := ⟨_, rfl⟩
  have HNN := Lib.hid hn
  have HMM := Lib.hid hm
  rw [← hn] at hm1 hro hW ⊢
  rw [← hm] at hm2 hro hW ⊢
  rw [hS]
  unfold maxLen at hm1 hm2
  have H0 : Hid (Below W.heap.size W W ∧ ∀ r ∈ x.rs.take 0, rngOk r = true) := Lib.hid ⟨Below.refl _ _, by simp⟩
  clear hb hP hPW hro hn hm
  go_enter Tryd.func62, Tryd.ntmps62
  go_upto_block 0 with fail
  rw [← hW]
  clear hW hS
  go_wp2
  go_loopw [3] (fun iv wr => ∃ i : Nat, i ≤ n ∧ iv = .int .i64 i ∧ Hid (Below W.heap.size W wr ∧ ∀ r ∈ x.rs.take i, rngOk r = true)) (fun iv _ => n - (intOf iv).toNat)
  case atStart => exact ⟨0, Nat.zero_le _, rfl, H0⟩
  case round =>
    clear H0
    obtain ⟨i, hin, rfl, HQ⟩ := hrel
    have hrr := HRO.out.on HQ.out.1 HSW.out
    have p1 : wr.cell? ⟨S, 1, none⟩ = some (.slice A n c) := by have h := hrr.cell (i := 1) (v := .slice A x.rs.length c) rfl; rwa [← HNN.out] at h
    have p2 : wr.cell? ⟨S, 2, none⟩ = some (.slice A2 m c2) := by have h := hrr.cell (i := 2) (v := .slice A2 x.ts.length c2) rfl; rwa [← HMM.out] at h
    clear hrr
    by_cases hlt : i < n
    · obtain ⟨⟨lo, hi⟩, hr⟩ : ∃ r, x.rs[i]? = some r := ⟨_, List.getElem?_eq_getElem (by have := HNN.out; omega)⟩
      obtain ⟨A', c', hv, hsi, -⟩ := H1.out.keep (below_cells HQ.out.1 HP.out)
      injection hv with hA _ hc
      subst hA hc
      obtain ⟨ad, u, v, rfl, hPa, hx, d0, d1⟩ := hsi.at2 (k := i) (by have := HNN.out; omega)
      obtain ⟨r, hr', rfl, rfl⟩ := prRow_at hx
      rw [hr] at hr'
      injection hr' with hr'
      subst hr'
      have HRI := Lib.hid hr
      have HMEM : Hid ((lo, hi) ∈ x.rs) := Lib.hid (List.mem_of_getElem? hr)
      obtain ⟨R, hR⟩ : ∃ R, wr.heap.size = R := ⟨_, rfl⟩
      obtain ⟨w1, hw1⟩ : ∃ w1, w1 = wr.alloc (.cells #[.int .i32 lo, .int .i32 hi] 62) := ⟨_, rfl⟩
      have hb1 : Below wr.heap.size wr w1 := by rw [hw1]; exact (Below.refl _ _).alloc (Nat.le_refl _) _
      have hro : Rw w1 R 62 #[.int .i32 lo, .int .i32 hi] := by rw [hw1, ← hR]; exact heap_alloc_new wr _
      have HB1 : Hid (Below W.heap.size W w1) := Lib.hid (HQ.out.1.trans (hb1.mono HQ.out.1.size))
      have HE : Hid (Below S w w1) := Lib.hid (HB.out.trans (HB1.out.mono (by have := HSW.out; omega)))
      have q0 : w1.cell? ⟨R, 0, none⟩ = some (.int .i32 lo) := hro.cell (i := 0) rfl
      have q1 : w1.cell? ⟨R, 1, none⟩ = some (.int .i32 hi) := hro.cell (i := 1) rfl
      have hrg : rngOk (lo, hi) = (celOk lo && celOk hi && decide (lo ≤ hi)) := rfl
      have hc1 := fun W => refCel_any lo W
      have hc2 := fun W => refCel_any hi W
      clear hr hsi hx hPa hb1 hro
      go_upto_region 5 with fail
      rw [← hw1]
      clear hw1 d0 d1 hR p1 p2
      by_cases k1 : celOk lo = true
      · rw [k1] at hc1 hrg
        by_cases k2 : celOk hi = true
        · rw [k2] at hc2 hrg
          by_cases k3 : hi < lo
          · have HF : Hid (setB x = false) := Lib.hid (setB_no1 HMEM.out (by rw [hrg, decide_eq_false (by omega)]; rfl))
            clear hrg k1 k2
            go_wp2_with (first | (go_at_call 60; with_reducible refine (hc1 _).mono ?_; rintro e w' ⟨rfl, rfl⟩) | (go_at_call 60; with_reducible refine (hc2 _).mono ?_; rintro e w' ⟨rfl, rfl⟩))
            go_ret
            exact ⟨by rw [HF.out]; rfl, HE.out⟩
          · have HG : Hid (Below W.heap.size W w1 ∧ ∀ r ∈ x.rs.take (i + 1), rngOk r = true) := Lib.hid ⟨HB1.out, fun r hr => by
              rcases mem_take_next HRI.out hr with h | h
              · exact HQ.out.2 r h
              · rw [h, hrg, decide_eq_true (by omega)]; rfl⟩
            have wi : IntKind.i64.wrap ((i : Int) + 1) = (i : Int) + 1 := by rw [IntKind.wrap_i64]; omega
            clear hrg k1 k2
            go_wp2_with (first | (go_at_call 60; with_reducible refine (hc1 _).mono ?_; rintro e w' ⟨rfl, rfl⟩) | (go_at_call 60; with_reducible refine (hc2 _).mono ?_; rintro e w' ⟨rfl, rfl⟩))
            go_roundw
            case rel => exact ⟨i + 1, by omega, by go_num, HG⟩
            case measure => simp [intOf]; omega
        · have k2' : celOk hi = false := by simpa using k2
          rw [k2'] at hc2 hrg
          have HF : Hid (setB x = false) := Lib.hid (setB_no1 HMEM.out (by rw [hrg]; rfl))
          clear hrg k1 k2 k2'
          go_wp2_with (first | (go_at_call 60; with_reducible refine (hc1 _).mono ?_; rintro e w' ⟨rfl, rfl⟩) | (go_at_call 60; with_reducible refine (hc2 _).mono ?_; rintro e w' ⟨rfl, rfl⟩))
          go_ret
          exact ⟨by rw [HF.out]; rfl, HE.out⟩
      · have k1' : celOk lo = false := by simpa using k1
        rw [k1'] at hc1 hrg
        have HF : Hid (setB x = false) := Lib.hid (setB_no1 HMEM.out (by rw [hrg]; rfl))
        clear hrg k1 k1' hc2
        go_wp2_with (go_at_call 60; with_reducible refine (hc1 _).mono ?_; rintro e w' ⟨rfl, rfl⟩)
        go_ret
        exact ⟨by rw [HF.out]; rfl, HE.out⟩
    · obtain rfl : i = n := by omega
      have HALL : Hid (∀ r ∈ x.rs, rngOk r = true) := Lib.hid (by have h := HQ.out.2; rwa [HNN.out, List.take_length] at h)
      have HBR := Lib.hid HQ.out.1
      clear HQ
      go_wp2
      go_loopw [5] (fun iv wq => ∃ j : Nat, j ≤ m ∧ iv = .int .i64 j ∧ wq = wr ∧ Hid (∀ t ∈ x.ts.take j, txtOk t = true)) (fun iv _ => m - (intOf iv).toNat)
      case atStart => exact ⟨0, Nat.zero_le _, rfl, rfl, Lib.hid (by simp)⟩
      case round =>
        obtain ⟨j, hjm, rfl, rfl, HT⟩ := hrel
        have HE : Hid (Below S w wr) := Lib.hid (HB.out.trans (HBR.out.mono (by have := HSW.out; omega)))
        by_cases hlt : j < m
        · obtain ⟨t, ht⟩ : ∃ t, x.ts[j]? = some t := ⟨_, List.getElem?_eq_getElem (by have := HMM.out; omega)⟩
          obtain ⟨A', c', us', hv, hsi, -, htt⟩ := H2.out.keep (below_cells HBR.out HP.out)
          injection hv with hA _ hc
          subst hA hc
          obtain ⟨a, d, hu, hri, htm⟩ := htt j t ht
          obtain ⟨ad, u, rfl, hPa, hx, d0⟩ := hsi.at1 (k := j) (by have := HMM.out; omega)
          rw [hu] at hx
          injection hx with hx
          injection hx with hx
          subst hx
          have HTI := Lib.hid ht
          have HMEM : Hid (t ∈ x.ts) := Lib.hid (List.mem_of_getElem? ht)
          have HRT := Lib.hid hri
          obtain ⟨l, hl⟩ : ∃ l, l = t.length := ⟨_, rfl⟩
          have HLL := Lib.hid hl
          rw [← hl] at d0
          have htx : txtOk t = (decide (2 ≤ l) && decide (l ≤ 4) && t.all celOk) := by rw [hl]; rfl
          clear hsi hu hri htm hPa ht htt hl
          by_cases k1 : l < 2
          · have HF : Hid (setB x = false) := Lib.hid (setB_no2 HMEM.out (by rw [htx, decide_eq_false (by omega)]; rfl))
            have k1' : (l : Int) < 2 := by omega
            clear htx
            go_wp2
            go_ret
            exact ⟨by rw [HF.out]; rfl, HE.out⟩
          · have k1' : ¬ (l : Int) < 2 := by omega
            by_cases k2 : 4 < l
            · have HF : Hid (setB x = false) := Lib.hid (setB_no2 HMEM.out (by rw [htx, decide_eq_true (by omega : 2 ≤ l), decide_eq_false (by omega)]; rfl))
              have k2' : (4 : Int) < (l : Int) := by omega
              clear htx
              go_wp2
              go_ret
              exact ⟨by rw [HF.out]; rfl, HE.out⟩
            · have k2' : ¬ (4 : Int) < (l : Int) := by omega
              rw [decide_eq_true (by omega : 2 ≤ l), decide_eq_true (by omega : l ≤ 4), Bool.true_and, Bool.true_and] at htx
              have HTX := Lib.hid htx
              clear htx
              go_wp2
              go_loopw [6] (fun jv wq => ∃ k : Nat, k ≤ l ∧ jv = .int .i64 k ∧ wq = wr ∧ Hid (∀ z ∈ t.take k, celOk z = true)) (fun jv _ => l - (intOf jv).toNat)
              case atStart => exact ⟨0, Nat.zero_le _, rfl, rfl, Lib.hid (by simp)⟩
              case round =>
                obtain ⟨k, hkl, rfl, rfl, HZ⟩ := hrel
                by_cases hk : k < l
                · obtain ⟨z, hz⟩ : ∃ z, t[k]? = some z := ⟨_, List.getElem?_eq_getElem (by have := HLL.out; omega)⟩
                  obtain ⟨az, rfl, -, hac⟩ := HRT.out.2 (by have := HLL.out; omega)
                  have dz := hac k z hz
                  have HZI := Lib.hid hz
                  have HZM : Hid (z ∈ t) := Lib.hid (List.mem_of_getElem? hz)
                  have hcz := fun W => refCel_any z W
                  have wk : IntKind.i64.wrap ((k : Int) + 1) = (k : Int) + 1 := by rw [IntKind.wrap_i64]; omega
                  clear hac hz
                  by_cases k3 : celOk z = true
                  · rw [k3] at hcz
                    have HG : Hid (∀ z ∈ t.take (k + 1), celOk z = true) := Lib.hid (fun y hy => by
                      rcases mem_take_next HZI.out hy with h | h
                      · exact HZ.out y h
                      · rw [h]; exact k3)
                    clear k3
                    go_wp2_with (go_at_call 60; with_reducible refine (hcz _).mono ?_; rintro e w' ⟨rfl, rfl⟩)
                    go_roundw
                    case rel => exact ⟨k + 1, by omega, by go_num, by first | rfl | trivial, HG⟩
                    case measure => simp [intOf]; omega
                  · have k3' : celOk z = false := by simpa using k3
                    rw [k3'] at hcz
                    have HF : Hid (setB x = false) := Lib.hid (setB_no2 HMEM.out (by rw [HTX.out]; exact List.all_eq_false.2 ⟨z, HZM.out, k3⟩))
                    clear k3 k3'
                    go_wp2_with (go_at_call 60; with_reducible refine (hcz _).mono ?_; rintro e w' ⟨rfl, rfl⟩)
                    go_ret
                    exact ⟨by rw [HF.out]; rfl, HE.out⟩
                · obtain rfl : k = l := by omega
                  have HG : Hid (∀ t ∈ x.ts.take (j + 1), txtOk t = true) := Lib.hid (fun y hy => by
                    rcases mem_take_next HTI.out hy with h | h
                    · exact HT.out y h
                    · rw [h, HTX.out]
                      refine List.all_eq_true.2 fun z hz => HZ.out z ?_
                      rw [HLL.out, List.take_length]
                      exact hz)
                  have wj : IntKind.i64.wrap ((j : Int) + 1) = (j : Int) + 1 := by rw [IntKind.wrap_i64]; omega
                  go_wp2
                  go_roundw
                  case rel => exact ⟨j + 1, by omega, by go_num, by first | rfl | trivial, HG⟩
                  case measure => simp [intOf]; omega
        · obtain rfl : j = m := by omega
          have HF : Hid (setB x = true) := Lib.hid (by
            unfold setB
            rw [Bool.and_eq_true]
            refine ⟨List.all_eq_true.2 HALL.out, List.all_eq_true.2 fun t ht => HT.out t ?_⟩
            rw [HMM.out, List.take_length]
            exact ht)
          go_wp2
          go_ret
          exact ⟨by rw [HF.out]; rfl, HE.out⟩
end Go.Proofs.YtcpjcepeiplfgaaDoor.C
