/-
  The document's own Same: trees that read alike are. Condition: no texts in a node.
-/
import Derived.Test.YtcpjcepeiplfgaaDoorTcD
namespace Go.Proofs.YtcpjcepeiplfgaaDoor.C
open Go.RowKit

set_option maxRecDepth 100000 in
set_option maxHeartbeats 8000000 in
theorem sameSet_yes (w : World) (P : Nat → Prop) (rs : List (Int × Int)) (nb : Bool) (vR vT uR uT : Value) (h1 : PrsP w P vR rs) (h2 : PrsP w P uR rs) (h3 : TxsP w P vT []) (h4 : TxsP w P uT []) (hP : ∀ b, P b → b < w.heap.size) :
    Calls Tryd.prog 32 #[.agg #[.bool nb, vR, vT], .agg #[.bool nb, uR, uT]] w fun e w' => e = .returned (.bool true) ∧ Below w.heap.size w w' := by
  obtain ⟨A, c, rfl, ha, hm⟩ := h1
  obtain ⟨B, d, rfl, hb, -⟩ := h2
  obtain ⟨A2, c2, us, rfl, -⟩ := h3
  obtain ⟨B2, d2, us', rfl, -⟩ := h4
  simp only [List.length_nil]
  obtain ⟨S, hS⟩ : ∃ S, w.heap.size = S := ⟨_, rfl⟩
  rw [hS]
  obtain ⟨n, hn⟩ : ∃ n, n = rs.length := ⟨_, rfl⟩
  rw [← hn] at ha hb hm ⊢
  obtain ⟨W, hW⟩ : ∃ W, W = (w.alloc (.cells #[.bool nb, .slice A n c, .slice A2 0 c2] 28)).alloc (.cells #[.bool nb, .slice B n d, .slice B2 0 d2] 28) := ⟨_, rfl⟩
  have hb1 : Below (S + 1) (w.alloc (.cells #[.bool nb, .slice A n c, .slice A2 0 c2] 28)) W := by rw [hW]; exact (Below.refl _ _).alloc (by simp; omega) _
  have hbW : Below S w W := ((Below.refl _ w).alloc (by omega) _).trans (hb1.mono (Nat.le_succ _))
  have r1 : Rw W S 28 #[.bool nb, .slice A n c, .slice A2 0 c2] := by
    have : Rw (w.alloc (.cells #[.bool nb, .slice A n c, .slice A2 0 c2] 28)) S 28 #[.bool nb, .slice A n c, .slice A2 0 c2] := by rw [← hS]; exact heap_alloc_new w _
    exact this.on hb1 (by omega)
  have r2 : Rw W (S + 1) 28 #[.bool nb, .slice B n d, .slice B2 0 d2] := by
    have := heap_alloc_new (w.alloc (.cells #[.bool nb, .slice A n c, .slice A2 0 c2] 28)) (.cells #[.bool nb, .slice B n d, .slice B2 0 d2] 28)
    rw [World.size_alloc, hS] at this
    rw [hW]; exact this
  have HA := Lib.hid (ha.keep (below_cells hbW (fun b hb => by rw [← hS]; exact hP b hb)))
  have HB := Lib.hid (hb.keep (below_cells hbW (fun b hb => by rw [← hS]; exact hP b hb)))
  have HP : Hid (∀ b, P b → b < W.heap.size) := Lib.hid (fun b hb => Nat.lt_of_lt_of_le (hP b hb) hbW.size)
  have HBW := Lib.hid hbW
  have HR1 := Lib.hid r1
  have HR2 := Lib.hid r2
  have HN := Lib.hid hn
  unfold maxLen at hm
  have p0 : W.cell? ⟨S, 0, none⟩ = some (.bool nb) := r1.cell (i := 0) rfl
  have p1 : W.cell? ⟨S, 1, none⟩ = some (.slice A n c) := r1.cell (i := 1) rfl
  have p2 : W.cell? ⟨S, 2, none⟩ = some (.slice A2 0 c2) := r1.cell (i := 2) rfl
  have q0 : W.cell? ⟨S + 1, 0, none⟩ = some (.bool nb) := r2.cell (i := 0) rfl
  have q1 : W.cell? ⟨S + 1, 1, none⟩ = some (.slice B n d) := r2.cell (i := 1) rfl
  have q2 : W.cell? ⟨S + 1, 2, none⟩ = some (.slice B2 0 d2) := r2.cell (i := 2) rfl
  have hnb : (nb != nb) = false := by cases nb <;> rfl
  clear ha hb hP hb1 hbW r1 r2 hn
  go_enter Tryd.func32, Tryd.ntmps32
  go_upto_region 1 with fail
  rw [← hW]
  clear hW hS
  go_wp2
  clear p0 p1 p2 q0 q1 q2 hnb
  go_loopw [5] (fun iv wr => ∃ i : Nat, i ≤ n ∧ iv = .int .i64 i ∧ Hid (Below W.heap.size W wr)) (fun iv _ => n - (intOf iv).toNat)
  case atStart => exact ⟨0, Nat.zero_le _, rfl, Lib.hid (Below.refl _ _)⟩
  case round =>
    obtain ⟨i, hin, rfl, HQ⟩ := hrel
    have r1 := HR1.out.on HQ.out HR1.out.lt
    have r2 := HR2.out.on HQ.out HR2.out.lt
    have p1 : wr.cell? ⟨S, 1, none⟩ = some (.slice A n c) := r1.cell (i := 1) rfl
    have p2 : wr.cell? ⟨S, 2, none⟩ = some (.slice A2 0 c2) := r1.cell (i := 2) rfl
    have q1 : wr.cell? ⟨S + 1, 1, none⟩ = some (.slice B n d) := r2.cell (i := 1) rfl
    have q2 : wr.cell? ⟨S + 1, 2, none⟩ = some (.slice B2 0 d2) := r2.cell (i := 2) rfl
    by_cases hlt : i < n
    · obtain ⟨ad, u, v, rfl, -, hx, d0, d1⟩ := (HA.out.keep (below_cells HQ.out HP.out)).at2 hlt
      obtain ⟨be, u', v', rfl, -, hx', e0, e1⟩ := (HB.out.keep (below_cells HQ.out HP.out)).at2 hlt
      rw [hx] at hx'
      injection hx' with hx'
      injection hx' with hu hv
      subst hu
      injection hv with hv
      subst hv
      rw [List.getElem?_map] at hx
      obtain ⟨r, hr, hr2⟩ := Option.map_eq_some_iff.1 hx
      simp only [prRow, List.cons.injEq, and_true] at hr2
      obtain ⟨rfl, rfl⟩ := hr2
      have w1 : IntKind.i64.wrap ((i : Int) + 1) = (i : Int) + 1 := by rw [IntKind.wrap_i64]; omega
      clear hx r1 r2 p2 q2
      go_wp2
      have hS1 : (fun W' : World => W'.cell? ⟨S, 1, none⟩ = some (.slice (some ad) n c) ∧ W'.cell? ⟨S + 1, 1, none⟩ = some (.slice (some be) n d) ∧ W'.cell? (ad.add (i * 2)) = some (.int .i32 r.1) ∧ W'.cell? ⟨(ad.add (i * 2)).block, (ad.add (i * 2)).off + 1, none⟩ = some (.int .i32 r.2) ∧ W'.cell? (be.add (i * 2)) = some (.int .i32 r.1) ∧ W'.cell? ⟨(be.add (i * 2)).block, (be.add (i * 2)).off + 1, none⟩ = some (.int .i32 r.2)) wr.drew := ⟨p1, q1, d0, d1, e0, e1⟩
      refine wp_region_held (S := fun W' : World => W'.cell? ⟨S, 1, none⟩ = some (.slice (some ad) n c) ∧ W'.cell? ⟨S + 1, 1, none⟩ = some (.slice (some be) n d) ∧ W'.cell? (ad.add (i * 2)) = some (.int .i32 r.1) ∧ W'.cell? ⟨(ad.add (i * 2)).block, (ad.add (i * 2)).off + 1, none⟩ = some (.int .i32 r.2) ∧ W'.cell? (be.add (i * 2)) = some (.int .i32 r.1) ∧ W'.cell? ⟨(be.add (i * 2)).block, (be.add (i * 2)).off + 1, none⟩ = some (.int .i32 r.2)) (by kernel_rfl) ?_
      change wpAnyH _ _ _ _ _ _ _ _ wr.drew
      iterate 11 (refine wpH rfl rfl ?_; try simp only [Act.put, g1, g2, g3, g4, g5, g6])
      refine wpAnyH_done (by kernel_rfl) ?_ _
      have HE : Hid (Below W.heap.size W wr.drew) := Lib.hid (below_drew HQ.out)
      clear hS1
      go_wp2
      go_roundw
      case rel => exact ⟨i + 1, by omega, by go_num, HE⟩
      case measure => simp [intOf]; omega
    · obtain rfl : i = n := by omega
      have HE : Hid (Below S w wr) := Lib.hid (HBW.out.trans (HQ.out.mono (by have := HR1.out.lt; omega)))
      clear r1 r2
      go_wp2
      go_loopw [6] (fun iv wq => iv = .int .i64 0 ∧ wq = wr) (fun _ _ => 0)
      case atStart => exact ⟨rfl, rfl⟩
      case round =>
        obtain ⟨rfl, rfl⟩ := hrel
        go_wp2
        go_ret
        exact ⟨rfl, HE.out⟩
theorem two_rows {w w2 : World} {R : Nat} {t : TypeId} {l m : Array Value} (hR : w.heap.size = R) (h : w2 = (w.alloc (.cells l t)).alloc (.cells m t)) : Rw w2 R t l ∧ Rw w2 (R + 1) t m ∧ Below R w w2 := by
  subst hR
  have hb : Below (w.heap.size + 1) (w.alloc (.cells l t)) w2 := by rw [h]; exact (Below.refl _ _).alloc (by simp) _
  have h1 : Rw (w.alloc (.cells l t)) w.heap.size t l := heap_alloc_new w _
  have h2 := heap_alloc_new (w.alloc (.cells l t)) (.cells m t)
  rw [World.size_alloc] at h2
  exact ⟨h1.on hb (Nat.lt_succ_self _), by rw [h]; exact h2, ((Below.refl _ w).alloc (Nat.le_refl _) _).trans (hb.mono (Nat.le_succ _))⟩
set_option maxRecDepth 100000 in
set_option maxHeartbeats 8000000 in
theorem same_yesT (w : World) (P : Nat → Prop) (A B : Option Addr) (c d : Nat) (t : Tr) (xs ys : List (List Value)) (hN : NdsP w P A t.ns xs) (hM : NdsP w P B t.ns ys) (hP : ∀ b, P b → b < w.heap.size) (hok : ∀ x ∈ t.ns, x.ts = []) (hl : t.ns.length ≤ 1000) :
    Calls Tryd.prog 20 #[.agg #[.slice A t.ns.length c, .int .i64 t.g], .agg #[.slice B t.ns.length d, .int .i64 t.g]] w fun e w' => e = .returned (.bool true) ∧ Below w.heap.size w w' := by
  obtain ⟨S, hS⟩ : ∃ S, w.heap.size = S := ⟨_, rfl⟩
  rw [hS]
  obtain ⟨W, hW⟩ : ∃ W, W = (w.alloc (.cells #[.slice A t.ns.length c, .int .i64 t.g] 34)).alloc (.cells #[.slice B t.ns.length d, .int .i64 t.g] 34) := ⟨_, rfl⟩
  obtain ⟨r1, r2, hbW⟩ := two_rows hS hW
  have HA := Lib.hid (hN.keep (below_cells hbW (fun b hb => by rw [← hS]; exact hP b hb)))
  have HB := Lib.hid (hM.keep (below_cells hbW (fun b hb => by rw [← hS]; exact hP b hb)))
  have HP : Hid (∀ b, P b → b < W.heap.size) := Lib.hid (fun b hb => Nat.lt_of_lt_of_le (hP b hb) hbW.size)
  have HBW := Lib.hid hbW
  have HR1 := Lib.hid r1
  have HR2 := Lib.hid r2
  have HOK := Lib.hid hok
  obtain ⟨n, hn⟩ : ∃ n, n = t.ns.length := ⟨_, rfl⟩
  have HN := Lib.hid hn
  rw [← hn] at hl r1 r2 hW ⊢
  have p0 : W.cell? ⟨S, 0, none⟩ = some (.slice A n c) := r1.cell (i := 0) rfl
  have p1 : W.cell? ⟨S, 1, none⟩ = some (.int .i64 t.g) := r1.cell (i := 1) rfl
  have q0 : W.cell? ⟨S + 1, 0, none⟩ = some (.slice B n d) := r2.cell (i := 0) rfl
  have q1 : W.cell? ⟨S + 1, 1, none⟩ = some (.int .i64 t.g) := r2.cell (i := 1) rfl
  clear hN hM hP hok hbW r1 r2 hn
  go_enter Tryd.func20, Tryd.ntmps20
  go_upto_region 1 with fail
  rw [← hW]
  clear hW hS
  go_wp2
  clear p0 p1 q0 q1
  go_loopw [5] (fun iv wr => ∃ i : Nat, i ≤ n ∧ iv = .int .i64 i ∧ Hid (Below W.heap.size W wr)) (fun iv _ => n - (intOf iv).toNat)
  case atStart => exact ⟨0, Nat.zero_le _, rfl, Lib.hid (Below.refl _ _)⟩
  case round =>
    obtain ⟨i, hin, rfl, HQ⟩ := hrel
    have r1 := HR1.out.on HQ.out HR1.out.lt
    have r2 := HR2.out.on HQ.out HR2.out.lt
    rw [← HN.out] at r1 r2
    have p0 : wr.cell? ⟨S, 0, none⟩ = some (.slice A n c) := r1.cell (i := 0) rfl
    have q0 : wr.cell? ⟨S + 1, 0, none⟩ = some (.slice B n d) := r2.cell (i := 0) rfl
    by_cases hlt : i < n
    · obtain ⟨x, hx⟩ : ∃ x, t.ns[i]? = some x := ⟨_, List.getElem?_eq_getElem (by have := HN.out; omega)⟩
      obtain ⟨ad, vR, vT, vK, rfl, -, h9, hnd⟩ := (HA.out.keep (below_cells HQ.out HP.out)).at_ hx
      obtain ⟨be, uR, uT, uK, rfl, -, k9, hne⟩ := (HB.out.keep (below_cells HQ.out HP.out)).at_ hx
      have hts := HOK.out x (List.mem_of_getElem? hx)
      obtain ⟨d0, d1, d2, d3, d4, d5, d6, d7, d8⟩ := h9
      obtain ⟨e0, e1, e2, e3, e4, e5, e6, e7, e8⟩ := k9
      obtain ⟨⟨AR, cR, rfl, -⟩, ⟨AT, cT, us, rfl, -⟩, ⟨AK, cK, rfl, -⟩⟩ := id hnd
      obtain ⟨⟨BR, dR, rfl, -⟩, ⟨BT, dT, us', rfl, -⟩, ⟨BK, dK, rfl, -⟩⟩ := id hne
      have p0' : ∀ o, (wr.alloc o).cell? ⟨S + 1, 0, none⟩ = some (.slice (some be) n d) := fun o => Lib.cell?_alloc_some _ q0
      have e0' : ∀ o, (wr.alloc o).cell? (be.add (i * 9)) = some (.int .u8 x.k) := fun o => Lib.cell?_alloc_some _ e0
      have e1' : ∀ o, (wr.alloc o).cell? ⟨(be.add (i * 9)).block, (be.add (i * 9)).off + 1, none⟩ = some (.int .i32 x.c) := fun o => Lib.cell?_alloc_some _ e1
      have e2' : ∀ o, (wr.alloc o).cell? ⟨(be.add (i * 9)).block, (be.add (i * 9)).off + 2, none⟩ = some (.bool x.nt) := fun o => Lib.cell?_alloc_some _ e2
      have e3' : ∀ o, (wr.alloc o).cell? ⟨(be.add (i * 9)).block, (be.add (i * 9)).off + 3, none⟩ = some (.slice BR x.rs.length dR) := fun o => Lib.cell?_alloc_some _ e3
      have e4' : ∀ o, (wr.alloc o).cell? ⟨(be.add (i * 9)).block, (be.add (i * 9)).off + 4, none⟩ = some (.slice BT x.ts.length dT) := fun o => Lib.cell?_alloc_some _ e4
      have e5' : ∀ o, (wr.alloc o).cell? ⟨(be.add (i * 9)).block, (be.add (i * 9)).off + 5, none⟩ = some (.int .i64 x.n) := fun o => Lib.cell?_alloc_some _ e5
      have e6' : ∀ o, (wr.alloc o).cell? ⟨(be.add (i * 9)).block, (be.add (i * 9)).off + 6, none⟩ = some (.int .i64 x.mn) := fun o => Lib.cell?_alloc_some _ e6
      have e7' : ∀ o, (wr.alloc o).cell? ⟨(be.add (i * 9)).block, (be.add (i * 9)).off + 7, none⟩ = some (.int .i64 x.mx) := fun o => Lib.cell?_alloc_some _ e7
      have e8' : ∀ o, (wr.alloc o).cell? ⟨(be.add (i * 9)).block, (be.add (i * 9)).off + 8, none⟩ = some (.slice BK x.ks.length dK) := fun o => Lib.cell?_alloc_some _ e8
      obtain ⟨R, hR⟩ : ∃ R, wr.heap.size = R := ⟨_, rfl⟩
      obtain ⟨w2, hw2⟩ : ∃ w2, w2 = (wr.alloc (.cells #[.int .u8 x.k, .int .i32 x.c, .bool x.nt, .slice AR x.rs.length cR, .slice AT x.ts.length cT, .int .i64 x.n, .int .i64 x.mn, .int .i64 x.mx, .slice AK x.ks.length cK] 31)).alloc (.cells #[.int .u8 x.k, .int .i32 x.c, .bool x.nt, .slice BR x.rs.length dR, .slice BT x.ts.length dT, .int .i64 x.n, .int .i64 x.mn, .int .i64 x.mx, .slice BK x.ks.length dK] 31) := ⟨_, rfl⟩
      obtain ⟨ra, rb, hb2⟩ := two_rows hR hw2
      have hWR : W.heap.size ≤ R := by rw [← hR]; exact HQ.out.size
      have hB2 : Below W.heap.size W w2 := HQ.out.trans (hb2.mono hWR)
      have hP2 : ∀ b, P b → b < w2.heap.size := fun b hb => Nat.lt_of_lt_of_le (HP.out b hb) hB2.size
      have hnd2 := hnd.keep (below_cells hb2 (fun b hb => Nat.lt_of_lt_of_le (HP.out b hb) hWR))
      have hne2 := hne.keep (below_cells hb2 (fun b hb => Nat.lt_of_lt_of_le (HP.out b hb) hWR))
      have hss := sameSet_yes w2 P x.rs x.nt _ _ _ _ hnd2.1 hne2.1 (by rw [← hts]; exact hnd2.2.1) (by rw [← hts]; exact hne2.2.1) hP2
      rw [hts] at hss ra rb d4 e4' hw2
      simp only [List.length_nil] at hss ra rb d4 e4' hw2
      have HX2 := Lib.hid (And.intro hnd2.2.2 hne2.2.2)
      have HRA := Lib.hid ra
      have HRB := Lib.hid rb
      have HB2 := Lib.hid hB2
      have HP2 := Lib.hid hP2
      clear hnd hne hnd2 hne2 hP2 hb2 hB2 hts e0 e1 e2 e3 e4 e5 e6 e7 e8 hx r1 r2
      go_upto_region 8 with fail
      rw [← hw2]
      clear hw2 d0 d1 d2 d3 d4 d5 d6 d7 d8 e0' e1' e2' e3' e4' e5' e6' e7' e8' p0 q0 p0' hWR
      have a0 : w2.cell? ⟨R, 0, none⟩ = some (.int .u8 x.k) := ra.cell (i := 0) rfl
      have a1 : w2.cell? ⟨R, 1, none⟩ = some (.int .i32 x.c) := ra.cell (i := 1) rfl
      have a2 : w2.cell? ⟨R, 2, none⟩ = some (.bool x.nt) := ra.cell (i := 2) rfl
      have a3 : w2.cell? ⟨R, 3, none⟩ = some (.slice AR x.rs.length cR) := ra.cell (i := 3) rfl
      have a4 : w2.cell? ⟨R, 4, none⟩ = some (.slice AT 0 cT) := ra.cell (i := 4) rfl
      have a5 : w2.cell? ⟨R, 5, none⟩ = some (.int .i64 x.n) := ra.cell (i := 5) rfl
      have a6 : w2.cell? ⟨R, 6, none⟩ = some (.int .i64 x.mn) := ra.cell (i := 6) rfl
      have a7 : w2.cell? ⟨R, 7, none⟩ = some (.int .i64 x.mx) := ra.cell (i := 7) rfl
      have a8 : w2.cell? ⟨R, 8, none⟩ = some (.slice AK x.ks.length cK) := ra.cell (i := 8) rfl
      have b0 : w2.cell? ⟨R + 1, 0, none⟩ = some (.int .u8 x.k) := rb.cell (i := 0) rfl
      have b1 : w2.cell? ⟨R + 1, 1, none⟩ = some (.int .i32 x.c) := rb.cell (i := 1) rfl
      have b2 : w2.cell? ⟨R + 1, 2, none⟩ = some (.bool x.nt) := rb.cell (i := 2) rfl
      have b3 : w2.cell? ⟨R + 1, 3, none⟩ = some (.slice BR x.rs.length dR) := rb.cell (i := 3) rfl
      have b4 : w2.cell? ⟨R + 1, 4, none⟩ = some (.slice BT 0 dT) := rb.cell (i := 4) rfl
      have b5 : w2.cell? ⟨R + 1, 5, none⟩ = some (.int .i64 x.n) := rb.cell (i := 5) rfl
      have b6 : w2.cell? ⟨R + 1, 6, none⟩ = some (.int .i64 x.mn) := rb.cell (i := 6) rfl
      have b7 : w2.cell? ⟨R + 1, 7, none⟩ = some (.int .i64 x.mx) := rb.cell (i := 7) rfl
      have b8 : w2.cell? ⟨R + 1, 8, none⟩ = some (.slice BK x.ks.length dK) := rb.cell (i := 8) rfl
      clear ra rb
      go_wp2_with fail
      refine hss.mono ?_
      rintro e w3 ⟨rfl, hb3⟩
      have HRA3 := Lib.hid (HRA.out.on hb3 HRA.out.lt)
      have HRB3 := Lib.hid (HRB.out.on hb3 HRB.out.lt)
      have HB3 : Hid (Below W.heap.size W w3) := Lib.hid (HB2.out.trans (hb3.mono HB2.out.size))
      have HX3 : Hid (KsP w3 P (.slice AK x.ks.length cK) x.ks ∧ KsP w3 P (.slice BK x.ks.length dK) x.ks) := Lib.hid ⟨HX2.out.1.keep (below_cells hb3 HP2.out), HX2.out.2.keep (below_cells hb3 HP2.out)⟩
      have HP3 : Hid (∀ b, P b → b < w3.heap.size) := Lib.hid (fun b hb => Nat.lt_of_lt_of_le (HP2.out b hb) hb3.size)
      clear hss hb3 a0 a1 a2 a3 a4 a5 a6 a7 a8 b0 b1 b2 b3 b4 b5 b6 b7 b8
      obtain ⟨m, hm⟩ : ∃ m, m = x.ks.length := ⟨_, rfl⟩
      have HMM := Lib.hid hm
      have hmm : m ≤ 9223372036854775807 := by obtain ⟨_, _, _, _, h⟩ := HX3.out.1; rw [hm]; exact h
      clear hm
      go_wp2
      go_loopw [8] (fun jv wq => ∃ j : Nat, j ≤ m ∧ jv = .int .i64 j ∧ Hid (Below w3.heap.size w3 wq)) (fun jv _ => m - (intOf jv).toNat)
      case atStart => exact ⟨0, Nat.zero_le _, rfl, Lib.hid (Below.refl _ _)⟩
      case round =>
        obtain ⟨j, hjm, rfl, HJ⟩ := hrel
        have s1 := HRA3.out.on HJ.out HRA3.out.lt
        have s2 := HRB3.out.on HJ.out HRB3.out.lt
        rw [← HMM.out] at s1 s2
        have a8 : wr.cell? ⟨R, 8, none⟩ = some (.slice AK m cK) := s1.cell (i := 8) rfl
        have b8 : wr.cell? ⟨R + 1, 8, none⟩ = some (.slice BK m dK) := s2.cell (i := 8) rfl
        clear s1 s2
        by_cases hlt2 : j < m
        · obtain ⟨A', c', hv, hri, -⟩ := HX3.out.1.keep (below_cells HJ.out HP3.out)
          injection hv with hA _ hc
          subst hA hc
          obtain ⟨B', d', hv, hri2, -⟩ := HX3.out.2.keep (below_cells HJ.out HP3.out)
          injection hv with hA _ hc
          subst hA hc
          obtain ⟨ak, u, rfl, -, hu, dk⟩ := hri.at_ (k := j) (by have := HMM.out; omega)
          obtain ⟨bk, u2, rfl, -, hu2, ek⟩ := hri2.at_ (k := j) (by have := HMM.out; omega)
          rw [hu] at hu2
          injection hu2 with hu2
          subst hu2
          have wj : IntKind.i64.wrap ((j : Int) + 1) = (j : Int) + 1 := by rw [IntKind.wrap_i64]; omega
          clear hri hri2 hu
          go_wp2
          have hS1 : (fun W' : World => W'.cell? ⟨R, 8, none⟩ = some (.slice (some ak) m cK) ∧ W'.cell? ⟨R + 1, 8, none⟩ = some (.slice (some bk) m dK) ∧ W'.cell? (ak.add j) = some (.int .i64 u) ∧ W'.cell? (bk.add j) = some (.int .i64 u)) wr.drew := ⟨a8, b8, dk, ek⟩
          refine wp_region_held (S := fun W' : World => W'.cell? ⟨R, 8, none⟩ = some (.slice (some ak) m cK) ∧ W'.cell? ⟨R + 1, 8, none⟩ = some (.slice (some bk) m dK) ∧ W'.cell? (ak.add j) = some (.int .i64 u) ∧ W'.cell? (bk.add j) = some (.int .i64 u)) (by kernel_rfl) ?_
          change wpAnyH _ _ _ _ _ _ _ _ wr.drew
          iterate 11 (refine wpH rfl rfl ?_; try simp only [Act.put, g1, g2, g3, g4, g5, g6])
          refine wpAnyH_done (by kernel_rfl) ?_ _
          have HE : Hid (Below w3.heap.size w3 wr.drew) := Lib.hid (below_drew HJ.out)
          clear hS1
          go_wp2
          go_roundw
          case rel => exact ⟨j + 1, by omega, by go_num, HE⟩
          case measure => simp [intOf]; omega
        · obtain rfl : j = m := by omega
          have HE : Hid (Below W.heap.size W wr) := Lib.hid (HB3.out.trans (HJ.out.mono HB3.out.size))
          have wi : IntKind.i64.wrap ((i : Int) + 1) = (i : Int) + 1 := by rw [IntKind.wrap_i64]; omega
          clear HJ
          go_wp2
          go_roundw
          case rel => exact ⟨i + 1, by omega, by go_num, HE⟩
          case measure => simp [intOf]; omega
    · obtain rfl : i = n := by omega
      have HE : Hid (Below S w wr) := Lib.hid (HBW.out.trans (HQ.out.mono (by have := HR1.out.lt; omega)))
      clear r1 r2
      go_wp2
      go_ret
      exact ⟨rfl, HE.out⟩
end Go.Proofs.YtcpjcepeiplfgaaDoor.C
