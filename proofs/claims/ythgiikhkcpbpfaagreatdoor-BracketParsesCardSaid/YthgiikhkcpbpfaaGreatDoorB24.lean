/-
  Joined: KqA. Each with what its own head says.
-/
import Derived.Test.YthgiikhkcpbpfaaGreatDoorB21
import Derived.Test.YthgiikhkcpbpfaaGreatDoorB23


namespace Go.Proofs.YthgiikhkcpbpfaaGreatDoor.C
open Go.RowKit
def rowsW (w : World) : List (List Int) → World
 | [] => w
 | r :: rs => rowsW (w.alloc (.cells (celC r).toArray 30)) rs
def rowsV (b : Nat) : List (List Int) → List Value
 | [] => []
 | r :: rs => .slice (some ⟨b, 0, none⟩) r.length r.length :: rowsV (b + 1) rs
theorem rowsW_size : ∀ (rs : List (List Int)) (w : World), (rowsW w rs).heap.size = w.heap.size + rs.length
 | [], _ => rfl
 | r :: rs, w => by rw [rowsW, rowsW_size rs, World.size_alloc, List.length_cons]; omega
theorem rowsW_below : ∀ (rs : List (List Int)) (w : World), Below w.heap.size w (rowsW w rs)
 | [], _ => Below.refl _ _
 | _ :: rs, w => ((Below.refl _ _).alloc (Nat.le_refl _) _).trans ((rowsW_below rs _).mono (by simp))
theorem rowsV_len : ∀ (rs : List (List Int)) (b : Nat), (rowsV b rs).length = rs.length
 | [], _ => rfl
 | _ :: rs, b => by rw [rowsV, List.length_cons, List.length_cons, rowsV_len rs]
theorem rowsW_at : ∀ (rs : List (List Int)) (w : World) (B k : Nat) (r : List Int) (u : Value), B ≤ w.heap.size → (∀ r ∈ rs, r.length ≤ maxLen) → rs[k]? = some r → (rowsV w.heap.size rs)[k]? = some u → (rowsW w rs).ownsRow B 30 1 u r.length (celC r)
 | [], _, _, _, _, _, _, _, h, _ => by cases h
 | q :: rs, w, B, 0, r, u, hB, hm, h, hu => by
  obtain rfl : q = r := by simpa using h
  obtain rfl : Value.slice (some ⟨w.heap.size, 0, none⟩) q.length q.length = u := by simpa [rowsV] using hu
  exact own_next (own_newK (l := celC q) hB (by simp [celC]) (hm q (List.mem_cons_self ..))) (rowsW_below rs _)
 | q :: rs, w, B, k + 1, r, u, hB, hm, h, hu => rowsW_at rs (w.alloc (.cells (celC q).toArray 30)) B k r u (by simp; omega) (fun x hx => hm x (List.mem_cons_of_mem _ hx)) (by simpa using h) (by simpa [rowsV] using hu)
theorem rowsAt_all (rs : List (List Int)) (w : World) (B : Nat) (hB : B ≤ w.heap.size) (hm : ∀ r ∈ rs, r.length ≤ maxLen) (hl : rs.length ≤ maxLen) :
  RowsAt ((rowsW w rs).alloc (.cells (rowsV w.heap.size rs).toArray 39)) B (.slice (some ⟨w.heap.size + rs.length, 0, none⟩) rs.length rs.length) rs := by
 refine ⟨rowsV w.heap.size rs, rowsV_len _ _, ?_, fun i r u a b => (rowsW_at rs w B i r u hB hm a b).alloc _⟩
 have := own_newK (W := rowsW w rs) (B := B) (n := rs.length) (sz := 1) (e := 39) (l := rowsV w.heap.size rs) (by rw [rowsW_size]; omega) (by rw [rowsV_len]; omega) hl
 rw [rowsW_size] at this
 exact this
def plainRows : List (List Int) := [[65, 90], [97, 122], [65, 90, 97, 122], [48, 57], [48, 57, 65, 90, 97, 122], [9, 13, 32, 32], [9, 9, 32, 32], [33, 47, 58, 64, 91, 96, 123, 126], [32, 126], [33, 126], [0, 31, 127, 127], [48, 57, 65, 70, 97, 102]]
def plainNames : List Value := plainCls.map fun k => .string (str k.name)
theorem plainRows_is : plainRows = plainCls.map fun k => flatP k.rs := by decide +kernel
theorem plainRows_at {k : Nat} {c : Cls} (h : plainCls[k]? = some c) : plainRows[k]? = some (flatP c.rs) := by rw [plainRows_is, List.getElem?_map, h]; rfl
theorem plainNames_at {k : Nat} {c : Cls} (h : plainCls[k]? = some c) : plainNames[k]? = some (.string (str c.name)) := by unfold plainNames; rw [List.getElem?_map, h]; rfl
theorem plainRows_small : ∀ r ∈ plainRows, r.length ≤ maxLen := by decide +kernel
theorem plainCls_small : ∀ k ∈ plainCls, k.rs.length ≤ 1000 := by decide +kernel
theorem infoClass8 : (Tryz.prog.info? 79).map (fun i => (i.zero, i.size, i.bytes)) = some (some (.agg #[.string (str []), .slice none 0 0]), 2, 40) := by kernel_rfl
structure PbSt (w0 : World) (S T N A : Nat) (k : Nat) (v1 : Value) (w : World) : Prop where
 p : PSt w0 S T ⟨plainCls.take k, [], [], []⟩ v1 (.slice none 0 0) (.slice none 0 0) (.slice none 0 0) w
 n : w.ownsRow S 9 1 (.slice (some ⟨N, 0, none⟩) 12 12) 12 plainNames
 a : RowsAt w S (.slice (some ⟨A, 0, none⟩) 12 12) plainRows
theorem RowsAt.frT {w w' : World} {lo : Nat} {v : Value} {rs : List (List Int)} {X : Nat → Prop} (h : RowsAt w lo v rs) (hf : Fr w w' X) (hx : ∀ g c z t, X g → w.heap[g]? = some (.cells c t z) → t ≠ 39 ∧ t ≠ 30) : RowsAt w' lo v rs := by
 obtain ⟨vs, h1, h2, h3⟩ := h
 refine ⟨vs, h1, ownsRow_fr h2 hf fun g hg hX => ?_, fun i r u a b => ownsRow_fr (h3 i r u a b) hf fun g hg hX => ?_⟩
 ·obtain ⟨c, hc⟩ := ownsRow_ty h2 hg
  exact (hx g _ _ _ hX hc).1 rfl
 ·obtain ⟨c, hc⟩ := ownsRow_ty (h3 i r u a b) hg
  exact (hx g _ _ _ hX hc).2 rfl
theorem keepN {w w' : World} {base sz n : Nat} {e : TypeId} {v : Value} {xs : List Value} {X : Nat → Prop} (h : w.ownsRow base e sz v n xs) (hf : Fr w w' X) (hx : ∀ g c z t, X g → w.heap[g]? = some (.cells c t z) → t ≠ e) : w'.ownsRow base e sz v n xs :=
 ownsRow_fr h hf fun g hg hX => by
  obtain ⟨c, hc⟩ := ownsRow_ty h hg
  exact hx g _ _ _ hX hc rfl
theorem wp_nameW {P : Program} {c : Code} {Q : Exit → Act → World → Prop} {a : Act} {w : World} (h : ∀ W, W = w → c.wp P Q a W) : c.wp P Q a w := h w rfl
theorem plain_take {k : Nat} {c : Cls} (h : plainCls[k]? = some c) : plainCls.take (k + 1) = plainCls.take k ++ [c] := by
 rw [List.take_add_one, h]; rfl
theorem pb_start (w W w2 : World) (hw2 : w2 = (w.alloc (.cells #[.slice none 0 0, .slice none 0 0, .slice none 0 0, .slice none 0 0] 27)).alloc (.cells plainNames.toArray 9)) (hW : W = ((rowsW w2 plainRows).alloc (.cells (rowsV (w.heap.size + 1 + 1) plainRows).toArray 39)).alloc (.cells #[.slice none 0 0, .slice none 0 0, .slice none 0 0, .slice none 0 0] 27)) :
  PbSt w w.heap.size (w.heap.size + 15) (w.heap.size + 1) (w.heap.size + 14) 0 (.slice none 0 0) W := by
 have hs2 : w2.heap.size = w.heap.size + 1 + 1 := by rw [hw2]; simp
 have hl : plainRows.length = 12 := rfl
 have hr := rowsAt_all plainRows w2 w.heap.size (by omega) plainRows_small (by decide)
 have hs3 := rowsW_size plainRows w2
 have hb3 := rowsW_below plainRows w2
 rw [hs2] at hr hs3 hb3
 rw [hl] at hr hs3
 obtain ⟨w4, hw4⟩ : ∃ w4, w4 = (rowsW w2 plainRows).alloc (.cells (rowsV (w.heap.size + 1 + 1) plainRows).toArray 39) := ⟨_, rfl⟩
 rw [← hw4] at hr hW
 have hs4 : w4.heap.size = w.heap.size + 15 := by rw [hw4]; simp; omega
 have hb24 : Below w2.heap.size w2 w4 := by rw [hw4, hs2]; exact hb3.alloc (by omega) _
 have hb4W : Below w4.heap.size w4 W := by rw [hW]; exact (Below.refl _ _).alloc (Nat.le_refl _) _
 have hw1 : Below w.heap.size w (w.alloc (.cells #[.slice none 0 0, .slice none 0 0, .slice none 0 0, .slice none 0 0] 27)) := (Below.refl _ _).alloc (Nat.le_refl _) _
 have hb2 : Below w.heap.size w w2 := by rw [hw2]; exact hw1.alloc (by simp) _
 have hbW : Below w.heap.size w W := (hb2.trans (hb24.mono (by omega))).trans (hb4W.mono (by omega))
 have hz : LocZ W (w.heap.size + 15) (.slice none 0 0) (.slice none 0 0) (.slice none 0 0) (.slice none 0 0) := by
  rw [← hs4, hW]; exact heap_alloc_new w4 _
 have hr0 : LocZ W w.heap.size (.slice none 0 0) (.slice none 0 0) (.slice none 0 0) (.slice none 0 0) := by
  have h0 : LocZ (w.alloc (.cells #[.slice none 0 0, .slice none 0 0, .slice none 0 0, .slice none 0 0] 27)) w.heap.size (.slice none 0 0) (.slice none 0 0) (.slice none 0 0) (.slice none 0 0) := heap_alloc_new w _
  have h1 : LocZ w2 w.heap.size (.slice none 0 0) (.slice none 0 0) (.slice none 0 0) (.slice none 0 0) := by
   rw [hw2]; exact (heap_lt _ _ h0.lt).trans h0
  have h2 : LocZ w4 w.heap.size (.slice none 0 0) (.slice none 0 0) (.slice none 0 0) (.slice none 0 0) := (hb24.block _ h1.lt).trans h1
  exact (hb4W.block _ h2.lt).trans h2
 have hn2 : w2.ownsRow w.heap.size 9 1 (.slice (some ⟨w.heap.size + 1, 0, none⟩) 12 12) 12 plainNames := by
  have := own_newK (W := w.alloc (.cells #[.slice none 0 0, .slice none 0 0, .slice none 0 0, .slice none 0 0] 27)) (B := w.heap.size) (n := 12) (sz := 1) (e := 9) (l := plainNames) (by simp) (by decide +kernel) (by decide)
  rw [World.size_alloc] at this
  rw [hw2]; exact this
 exact ⟨⟨hz, hr0, by omega, LocAt.nil _ _, by intro g hg; simp [Value.ownBlock] at hg, hbW⟩, own_next (own_next hn2 hb24) hb4W, hr.next hb4W⟩
theorem two_new (w : World) (a b : Value) (t : TypeId) : ∀ j u, [a, b][j]? = some u → (w.alloc (.cells #[a, b] t)).cell? ((⟨w.heap.size, 0, none⟩ : Addr).add j) = some u := by
 intro j u hu
 rw [add_plain, Nat.zero_add, World.cell?_alloc_new]
 simpa using hu
set_option maxRecDepth 100000 in
set_option maxHeartbeats 8000000 in
theorem plain08_any (w : World) : Calls Tryz.prog 16 #[] w fun e w' => ∃ v1 v2 v3 v4, e = .returned (.agg #[v1, v2, v3, v4]) ∧ LocAt w' w.heap.size v1 v2 v3 v4 plainLoc ∧ Below w.heap.size w w' := by
 obtain ⟨S, hS⟩ : ∃ S, S = w.heap.size := ⟨_, rfl⟩
 obtain ⟨iP, hiP, hp0, hp1, hp2⟩ := info_parts infoPair
 obtain ⟨iE, hiE, he0, he1, he2⟩ := info_parts infoElem
 obtain ⟨iC, hiC, hc0, hc1, hc2⟩ := info_parts infoClass8
 go_enter Tryz.func16, Tryz.ntmps16
 go_wp2
 refine wp_nameW fun W hW => ?_
 have HP := Lib.hid (pb_start w W _ rfl (by rw [hW]; rfl))
 clear hW
 rw [← hS] at HP ⊢
 obtain ⟨T, hT⟩ : ∃ T, T = S + 15 := ⟨_, rfl⟩
 obtain ⟨A, hA⟩ : ∃ A, A = S + 14 := ⟨_, rfl⟩
 obtain ⟨N, hN⟩ : ∃ N, N = S + 1 := ⟨_, rfl⟩
 rw [show S + 1 + 1 + 1 + 1 + 1 + 1 + 1 + 1 + 1 + 1 + 1 + 1 + 1 + 1 + 1 = T from by omega, show S + 1 + 1 + 1 + 1 + 1 + 1 + 1 + 1 + 1 + 1 + 1 + 1 + 1 + 1 = A from by omega]
 rw [← hT, ← hA, ← hN] at HP
 obtain ⟨aN, haN⟩ : ∃ aN : Addr, aN = ⟨N, 0, none⟩ := ⟨_, rfl⟩
 obtain ⟨aA, haA⟩ : ∃ aA : Addr, aA = ⟨A, 0, none⟩ := ⟨_, rfl⟩
 rw [show (⟨S + 1, 0, none⟩ : Addr) = aN from by rw [haN, hN], show (⟨A, 0, none⟩ : Addr) = aA from haA.symm]
 have hST : S < T := by omega
 have HAN := Lib.hid haN
 have HAA := Lib.hid haA
 have HS := Lib.hid hS
 clear hT hA hN haN haA hS
 go_loopw [4] (fun iv wr => ∃ (k : Nat) (A1 : Option Addr) (c1 : Nat), k ≤ 12 ∧ iv = .int .i64 (k : Int) ∧ Hid (PbSt w S T N A k (.slice A1 k c1) wr)) (fun iv _ => 12 - (intOf iv).toNat)
 case atStart => exact ⟨0, none, 0, by omega, rfl, HP⟩
 case round =>
  clear HP
  obtain ⟨k, A1, c1, hk, rfl, HQ⟩ := hrel
  by_cases hlt : k < 12
  ·obtain ⟨⟨nm, ps⟩, hkc⟩ : ∃ c, plainCls[k]? = some c := ⟨_, List.getElem?_eq_getElem (by rw [plainCls_len]; omega)⟩
   have hi1 : (k : Int) < 12 := by omega
   have hi0 : (0 : Int) ≤ (k : Int) := by omega
   have hQ := HQ.out
   obtain ⟨rv, r1, r2, r3⟩ := hQ.a
   obtain ⟨u, hu⟩ : ∃ u, rv[k]? = some u := ⟨_, List.getElem?_eq_getElem (by rw [r1]; exact hlt)⟩
   have hrow := r3 k _ _ (plainRows_at hkc) hu
   obtain ⟨Ar, cr, rfl⟩ := row_form hrow
   have d0 := hQ.p.z.cells.1
   have d1 : wr.cell? (aN.add k) = some (.string (str nm)) := by rw [HAN.out]; exact hQ.n.cells (g := N) rfl k _ (plainNames_at hkc)
   have d2 : wr.cell? (aA.add k) = some (.slice Ar (flatP ps).length cr) := by rw [HAA.out]; exact r2.cells (g := A) rfl k _ hu
   have hsz : S ≤ wr.heap.size := Nat.le_of_lt (Array.getElem?_eq_some_iff.1 hQ.p.r).1
   obtain ⟨vs, e1, e2, e3⟩ := hQ.p.loc.1
   have el : (⟨plainCls.take k, [], [], []⟩ : Loc).cls.length = k := by show (plainCls.take k).length = k; rw [List.length_take, plainCls_len]; omega
   have hrg := ranges08_any wr.drew wr.heap.size Ar _ cr ps (RI.of_own hrow) (Nat.le_refl _) (plainCls_small _ (List.mem_of_getElem? hkc))
   have HE1 := Lib.hid e1
   have HE2 := Lib.hid e2
   have HE3 := Lib.hid e3
   have HKC := Lib.hid hkc
   have HEL := Lib.hid el
   have HR2 := Lib.hid r2
   have HUK := Lib.hid hu
   clear hrow r1 r2 r3 hu hQ e1 e2 e3 hkc el
   go_wp2
   refine wp_region_E (S := fun W : World => W.cell? ⟨T, 0, none⟩ = some (.slice A1 k c1) ∧ W.cell? (aN.add k) = some (.string (str nm)) ∧ W.cell? (aA.add k) = some (.slice Ar (flatP ps).length cr)) (L := 15) (by kernel_rfl) ?_
   have hS1 : (fun W : World => W.cell? ⟨T, 0, none⟩ = some (.slice A1 k c1) ∧ W.cell? (aN.add k) = some (.string (str nm)) ∧ W.cell? (aA.add k) = some (.slice Ar (flatP ps).length cr)) wr.drew := ⟨d0, d1, d2⟩
   iterate 10 (refine wpE rfl rfl ?_; try simp only [Act.put, g1, g2, g3, g4, g5, g6])
   refine wpAnyE_one (i := 10) (by kernel_rfl) rfl (fun K hK => ?_)
   simp only [g4, g5, g6]
   go_simp
   go_at_call 34
   refine hrg.mono ?_
   rintro e w3 ⟨v, rfl, ho, hb3⟩
   obtain ⟨Ao, co, rfl⟩ := row_form ho
   have hb3' : Below wr.heap.size wr w3 := (below_drew (Below.refl _ _)).trans hb3
   have hS3 : (fun W : World => W.cell? ⟨T, 0, none⟩ = some (.slice A1 k c1) ∧ W.cell? (aN.add k) = some (.string (str nm)) ∧ W.cell? (aA.add k) = some (.slice Ar (flatP ps).length cr)) w3 := ⟨below_cell hb3' d0, below_cell hb3' d1, below_cell hb3' d2⟩
   have HO3 := Lib.hid ho
   have HB3 := Lib.hid hb3'
   clear ho hb3 hb3' hrg
   refine hK.out _ _ (fun _ => hS3) (fun hS => ?_)
   replace hS := hS (by decide)
   try simp only [Act.put, g1, g2, g3, g4, g5, g6]
   refine wpEn 11 rfl ?_
   try simp only [Act.put, g1, g2, g3, g4, g5, g6]
   refine wpAnyE_one (i := 12) (by kernel_rfl) rfl (fun K hK => ?_)
   simp only [g4, g5, g6]
   go_simp
   obtain ⟨w4, hw4⟩ : ∃ w4, w4 = w3.alloc (.cells #[.string (str nm), .slice Ao ps.length co] 79) := ⟨_, rfl⟩
   have hb34 : Below w3.heap.size w3 w4 := by rw [hw4]; exact (Below.refl _ _).alloc (Nat.le_refl _) _
   have hs4 : w4.heap.size = w3.heap.size + 1 := by rw [hw4]; simp
   have hb4 : Below wr.heap.size wr w4 := HB3.out.trans (hb34.mono HB3.out.size)
   have hS4 : (fun W : World => W.cell? ⟨T, 0, none⟩ = some (.slice A1 k c1) ∧ W.cell? (aN.add k) = some (.string (str nm)) ∧ W.cell? (aA.add k) = some (.slice Ar (flatP ps).length cr)) w4 := ⟨below_cell hb4 d0, below_cell hb4 d1, below_cell hb4 d2⟩
   have HP4 := Lib.hid (HQ.out.p.next hb4)
   have HO4 := Lib.hid (own_low (own_next HO3.out hb34) hsz)
   have HN4 := Lib.hid (own_next HQ.out.n hb4)
   have HA4 := Lib.hid (HQ.out.a.next hb4)
   have HC4 : Hid (w4.ownsRow S 79 2 (.slice A1 k c1) k (clsC (plainCls.take k) vs)) := Lib.hid (by have h := own_next HE2.out hb4; rw [HEL.out] at h; exact h)
   have hsz4 : S ≤ w4.heap.size := by have := hb4.size; omega
   rw [show w3.alloc (.cells #[.string (str nm), .slice Ao ps.length co] 79) = w4 from hw4.symm]
   refine hK.out _ _ (fun _ => hS4) (fun hS => ?_)
   replace hS := hS (by decide)
   try simp only [Act.put, g1, g2, g3, g4, g5, g6]
   refine wpAnyE_one (i := 13) (by kernel_rfl) rfl (fun K hK => ?_)
   refine step_append_lies _ (by rfl) _ _ _ (by rfl) S 79 iC (.agg #[.string (str []), .slice none 0 0]) 2 40 Tryz.underlying23 hiC hc0 hc1 hc2 rfl (by decide) (.slice A1 k c1) k (clsC (plainCls.take k) vs) (by rfl) HC4.out ⟨w3.heap.size, 0, none⟩ 1 1 [.string (str nm), .slice Ao ps.length co] (by rfl) (by rfl) (by rw [hw4]; exact two_new w3 _ _ _) (by intro u hu; simp at hu; rcases hu with rfl | rfl <;> rfl) (by omega) (by unfold maxLen; omega) (by omega) (by omega) _ rfl ?_
   intro g cap w5 hown5 hgr5 hat5 hlt5
   have hz5 := HP4.out.mid HC4.out (by decide) hgr5
   have hP6 := HP4.out.cls (g := g) (cap := cap) ⟨nm, ps⟩ HE1.out (by rw [HEL.out]; exact HC4.out) (fun i c x a b => own_next (HE3.out i c x a b) hb4) HO4.out hgr5 (by rw [HEL.out]; exact hown5)
   rw [HEL.out] at hP6
   have e6 : ({ (⟨plainCls.take k, [], [], []⟩ : Loc) with cls := (⟨plainCls.take k, [], [], []⟩ : Loc).cls ++ [⟨nm, ps⟩] } : Loc) = ⟨plainCls.take (k + 1), [], [], []⟩ := by rw [plain_take HKC.out]
   rw [e6] at hP6
   have hn5 := keepN HN4.out (Fr.of_grown hgr5) (fun j c z t hj hc => by obtain ⟨c', h'⟩ := ownsRow_ty HC4.out hj; rw [hc] at h'; injection h' with h'; injection h' with _ h' _; rw [h']; decide)
   have hr5 := keepN (own_next HR2.out hb4) (Fr.of_grown hgr5) (fun j c z t hj hc => by obtain ⟨c', h'⟩ := ownsRow_ty HC4.out hj; rw [hc] at h'; injection h' with h'; injection h' with _ h' _; rw [h']; decide)
   have ha5 := HA4.out.frT (Fr.of_grown hgr5) (fun j c z t hj hc => by obtain ⟨c', h'⟩ := ownsRow_ty HC4.out hj; rw [hc] at h'; injection h' with h'; injection h' with _ h' _; rw [h']; decide)
   have hset : Fr w5 (w5.setCell ⟨T, 0, none⟩ (.slice (some ⟨g, 0, none⟩) (k + 1) cap)) (· = T) := (Fr.of_below (Below.refl _ w5)).set _ _ (fun _ => rfl)
   have hty : ∀ j c z t, j = T → w5.heap[j]? = some (.cells c t z) → t = 27 := by
    rintro j c z t rfl hg
    have := hg.symm.trans hz5
    simp at this
    exact this.2.1
   have HEND : Hid (PbSt w S T N A (k + 1) (.slice (some ⟨g, 0, none⟩) (k + 1) cap) (w5.setCell ⟨T, 0, none⟩ (.slice (some ⟨g, 0, none⟩) (k + 1) cap))) := Lib.hid ⟨hP6, keepN hn5 hset (fun j c z t hj hc => by rw [hty j c z t hj hc]; decide), ha5.frT hset (fun j c z t hj hc => by rw [hty j c z t hj hc]; decide)⟩
   have y0 := hz5.cells.1
   have y1 := hz5.frozen 0
   have hS5 : (fun W : World => W.cell? ⟨T, 0, none⟩ = some (.slice A1 k c1) ∧ W.cell? (aN.add k) = some (.string (str nm)) ∧ W.cell? (aA.add k) = some (.slice Ar (flatP ps).length cr)) w5 := ⟨y0, by rw [HAN.out]; exact hn5.cells (g := N) rfl k _ (plainNames_at HKC.out), by rw [HAA.out]; exact hr5.cells (g := A) rfl k _ HUK.out⟩
   clear hown5 hgr5 hat5 hz5 hP6 hn5 hr5 ha5 hset hty e6
   refine hK.out _ _ (fun _ => hS5) (fun hS => ?_)
   replace hS := hS (by decide)
   try simp only [Act.put, g1, g2, g3, g4, g5, g6]
   refine wpEn 14 rfl ?_
   try simp only [Act.put, g1, g2, g3, g4, g5, g6]
   refine wpAnyE_one (i := 15) (by kernel_rfl) rfl (fun K hK => ?_)
   simp only [g4, g5, g6]
   go_simp
   refine hK.out _ _ (fun h => absurd rfl h) (fun _ => ?_)
   refine wpAnyE_done (by kernel_rfl) ?_ _
   clear hS1 hS3 hS4 hS5 hS hK y0 y1 d0 d1 d2 hw4 hb4 hb34
   go_wp2
   go_roundw
   case rel => exact ⟨k + 1, some ⟨g, 0, none⟩, cap, by omega, by go_num, HEND⟩
   case measure => simp [intOf]; omega
  ·obtain rfl : k = 12 := by omega
   have HQ12 : Hid (PSt w S T ⟨plainCls, upP 0, loP 0, []⟩ (.slice A1 12 c1) (.slice none 0 0) (.slice none 0 0) (.slice none 0 0) wr) := Lib.hid HQ.out.p
   clear HQ HAN HAA
   rw [show ((12 : Nat) : Int) = (12 : Int) from rfl]
   go_wp2
   go_loopw [5] (fun iv wr => ∃ (k : Nat) (A2 A3 : Option Addr) (c2 c3 : Nat), k ≤ 26 ∧ iv = .int .i32 (97 + (k : Int)) ∧ Hid (PSt w S T ⟨plainCls, upP k, loP k, []⟩ (.slice A1 12 c1) (.slice A2 k c2) (.slice A3 k c3) (.slice none 0 0) wr)) (fun iv _ => 123 - (intOf iv).toNat)
   case atStart => exact ⟨0, none, none, 0, 0, by omega, rfl, HQ12⟩
   case round =>
    clear HQ12
    obtain ⟨k, A2, A3, c2, c3, hk, rfl, HQ⟩ := hrel
    obtain ⟨pa, hpa⟩ : ∃ pa : Int, pa = 97 + (k : Int) := ⟨_, rfl⟩
    obtain ⟨pb, hpb⟩ : ∃ pb : Int, pb = 65 + (k : Int) := ⟨_, rfl⟩
    rw [← hpa]
    by_cases hlt : k < 26
    ·have hl' : pa ≤ 122 := by omega
     have x1 : IntKind.i32.wrap (pa - 32) = pb := by rw [IntKind.wrap_i32]; omega
     have x3 : IntKind.i32.wrap (pa + 1) = 97 + ((k + 1 : Nat) : Int) := by rw [IntKind.wrap_i32]; omega
     have HX3 := Lib.hid x3
     obtain ⟨pc, hpc⟩ : ∃ pc : Int, pc = 97 + ((k + 1 : Nat) : Int) := ⟨_, rfl⟩
     rw [← hpc] at x3
     have HPC := Lib.hid hpc
     obtain ⟨d0, d1, d2, d3⟩ := HQ.out.z.cells
     have hsz : S ≤ wr.heap.size := by have := (Array.getElem?_eq_some_iff.1 HQ.out.r).1; omega
     have HU : Hid (wr.ownsRow S 81 2 (.slice A2 k c2) k (prsC (upP k))) := Lib.hid (by have h := HQ.out.loc.2.1; rw [show (⟨plainCls, upP k, loP k, []⟩ : Loc).up.length = k from upP_len k] at h; exact h)
     have HPA := Lib.hid hpa
     have HPB := Lib.hid hpb
     clear hpa hpb hpc
     go_wp2_with (first | (at_builtin; (refine wpList_append_lies _ rfl _ _ 24 rfl S 81 iP (.agg #[.int .i32 0, .int .i32 0]) 2 8 Tryz.underlying24 hiP hp0 hp1 hp2 rfl (by decide) (.slice A2 k c2) k (prsC (upP k)) rfl (HU.out.alloc _) ⟨wr.heap.size, 0, none⟩ 1 1 [.int .i32 pa, .int .i32 pb] rfl rfl (pair_new _ _ _ _ _ rfl) (by intro u hu; simp at hu; rcases hu with rfl | rfl <;> rfl) (by omega) (by unfold maxLen; omega) (by omega) (by simp; omega) (wr.heap.size + 1) (by simp) ?_); intro g cap w3 hown' hgrow hat hlt3; (obtain ⟨hP4, hz3⟩ := PSt.up2 HQ.out HPA.out HPB.out hgrow hown' (hat.imp id fun h => by rw [h, World.size_alloc]; exact Nat.le_refl _)); (have HP4 := Lib.hid hP4); (obtain ⟨y0, y1, y2, y3⟩ := hz3.cells); (obtain ⟨s0, s1, s2, s3⟩ := hP4.z.cells); (have z1 := hz3.frozen 1); (have HV : Hid ((w3.setCell ⟨T, 1, none⟩ (.slice (some ⟨g, 0, none⟩) (k + 1) cap)).ownsRow S 81 2 (.slice A3 k c3) k (prsC (loP k))) := Lib.hid (by have h := HP4.out.loc.2.2.1; rw [show (⟨plainCls, upP (k + 1), loP k, []⟩ : Loc).lo.length = k from loP_len k] at h; exact h)); (have hsz4 : S ≤ (w3.setCell ⟨T, 1, none⟩ (.slice (some ⟨g, 0, none⟩) (k + 1) cap)).heap.size := Nat.le_of_lt (Array.getElem?_eq_some_iff.1 HP4.out.r).1); clear hown' hgrow hat hz3 hP4 HU) | (at_builtin; (refine wpList_append_lies _ rfl _ _ 24 rfl S 81 iP (.agg #[.int .i32 0, .int .i32 0]) 2 8 Tryz.underlying24 hiP hp0 hp1 hp2 rfl (by decide) (.slice A3 k c3) k (prsC (loP k)) rfl (HV.out.alloc _) ⟨w3.heap.size, 0, none⟩ 1 1 [.int .i32 pb, .int .i32 pa] rfl rfl (pair_new _ _ _ _ _ (by simp [World.setCell])) (by intro u hu; simp at hu; rcases hu with rfl | rfl <;> rfl) (by omega) (by unfold maxLen; omega) (by omega) (by simp only [World.size_alloc]; omega) (w3.heap.size + 1) (by simp [World.setCell]) ?_); intro g' cap' w5 hown' hgrow hat hlt5; (obtain ⟨hP6, hz5⟩ := PSt.lo2 HP4.out HPA.out HPB.out hgrow hown' (hat.imp id fun h => by rw [h]; simp [World.setCell])); (have HP6 := Lib.hid hP6); (obtain ⟨t0, t1, t2, t3⟩ := hz5.cells); (have z2 := hz5.frozen 2); clear hown' hgrow hat hz5 hP6 HV HP4))
     go_roundw
     case rel => exact ⟨k + 1, some ⟨g, 0, none⟩, some ⟨g', 0, none⟩, cap, cap', by omega, by rw [HPC.out], HP6⟩
     case measure => simp [intOf]; have := HPA.out; have := HPC.out; omega
    ·obtain rfl : k = 26 := by omega
     have HQ26 : Hid (PSt w S T ⟨plainCls, upP 26, loP 26, ordP 0⟩ (.slice A1 12 c1) (.slice A2 26 c2) (.slice A3 26 c3) (.slice none 0 0) wr) := HQ
     have hl' : ¬ pa ≤ 122 := by omega
     clear HQ hpa hpb
     go_wp2
     go_loopw [6] (fun iv wq => ∃ (k : Nat) (A4 : Option Addr) (c4 : Nat), k ≤ 128 ∧ iv = .int .i64 (k : Int) ∧ Hid (PSt w S T ⟨plainCls, upP 26, loP 26, ordP k⟩ (.slice A1 12 c1) (.slice A2 26 c2) (.slice A3 26 c3) (.slice A4 k c4) wq)) (fun iv _ => 128 - (intOf iv).toNat)
     case atStart => exact ⟨0, none, 0, by omega, rfl, HQ26⟩
     case round =>
      clear HQ26
      obtain ⟨k, A4, c4, hk, rfl, HQ⟩ := hrel
      by_cases hlt2 : k < 128
      ·have hl2 : (k : Int) < 128 := by omega
       have x1 : IntKind.i32.wrap (k : Int) = (k : Int) := by rw [IntKind.wrap_i32]; omega
       obtain ⟨d0, d1, d2, d3⟩ := HQ.out.z.cells
       have hsz2 : S ≤ wr.heap.size := Nat.le_of_lt (Array.getElem?_eq_some_iff.1 HQ.out.r).1
       obtain ⟨vs, e1, e2, e3⟩ := HQ.out.loc.2.2.2
       rw [show (⟨plainCls, upP 26, loP 26, ordP k⟩ : Loc).ord.length = k from ordP_len k] at e1 e2
       have HE1 := Lib.hid e1
       have HE2 : Hid (wr.ownsRow S 83 3 (.slice A4 k c4) k (ordR (ordP k) vs).flatten) := Lib.hid e2
       have HE3 : Hid (∀ (i : Nat) (e : Elm) (x : Value), (ordP k)[i]? = some e → vs[i]? = some x → wr.ownsRow S 30 1 x e.cells.length (celC e.cells)) := Lib.hid e3
       clear e1 e2 e3
       go_wp2_with (at_builtin; (refine wpList_append_lies _ rfl _ _ 25 rfl S 83 iE (.agg #[.string (str []), .slice none 0 0, .int .i64 0]) 3 48 Tryz.underlying25 hiE he0 he1 he2 rfl (by decide) (.slice A4 k c4) k (ordR (ordP k) vs).flatten rfl ((HE2.out.alloc _).alloc _) ⟨wr.heap.size + 1, 0, none⟩ 1 1 [.string ⟨#[]⟩, .slice (some ⟨wr.heap.size, 0, none⟩) 1 1, .int .i64 k] rfl rfl (trip_new _ _ _ _ _ _ (by simp)) (by intro u hu; simp at hu; rcases hu with rfl | rfl | rfl <;> rfl) (by omega) (by unfold maxLen; omega) (by omega) (by simp only [World.size_alloc]; omega) (wr.heap.size + 1 + 1) (by simp) ?_); intro g cap w5 hown' hgrow hat hlt5; (obtain ⟨hP6, hz5⟩ := PSt.ord2 HQ.out HE1.out HE2.out HE3.out hgrow hown'); (have HP6 := Lib.hid hP6); (obtain ⟨t0, t1, t2, t3⟩ := hz5.cells); (have z3 := hz5.frozen 3); clear hown' hgrow hat hz5 hP6)
       go_roundw
       case rel =>
        exact ⟨k + 1, some ⟨g, 0, none⟩, cap, by omega, by go_num, HP6⟩
       case measure => simp [intOf]; omega
      ·obtain rfl : k = 128 := by omega
       obtain ⟨d0, d1, d2, d3⟩ := HQ.out.z.cells
       have hr : LocZ wr S _ _ _ _ := HQ.out.r
       obtain ⟨r0, r1, r2, r3⟩ := hr.cells
       have f0 := LocZ.frozen hr 0
       have f1 := LocZ.frozen hr 1
       have f2 := LocZ.frozen hr 2
       have f3 := LocZ.frozen hr 3
       have HF := Lib.hid (HQ.out.told (.slice A1 12 c1) (.slice A2 26 c2) (.slice A3 26 c3) (.slice A4 128 c4))
       have hrz := set_row (i := 3) (l := [_, _, _, _]) (set_row (i := 2) (l := [_, _, _, _]) (set_row (i := 1) (l := [_, _, _, _]) (set_row (i := 0) (l := [_, _, _, _]) hr (.slice A1 12 c1)) (.slice A2 26 c2)) (.slice A3 26 c3)) (.slice A4 128 c4)
       have hrz' : LocZ ((((wr.setCell ⟨S, 0, none⟩ (.slice A1 12 c1)).setCell ⟨S, 1, none⟩ (.slice A2 26 c2)).setCell ⟨S, 2, none⟩ (.slice A3 26 c3)).setCell ⟨S, 3, none⟩ (.slice A4 128 c4)) S (.slice A1 12 c1) (.slice A2 26 c2) (.slice A3 26 c3) (.slice A4 128 c4) := hrz
       obtain ⟨q0, q1, q2, q3⟩ := hrz'.cells
       clear hr hrz hrz'
       go_wp2
       refine bodyPost_ret (v := .agg #[.slice A1 12 c1, .slice A2 26 c2, .slice A3 26 c3, .slice A4 128 c4]) (by simp [results, Tryz.results16, go_sem, q0, q1, q2, q3]) rfl ⟨_, _, _, _, rfl, by rw [← HS.out]; exact HF.out⟩
end Go.Proofs.YthgiikhkcpbpfaaGreatDoor.C
