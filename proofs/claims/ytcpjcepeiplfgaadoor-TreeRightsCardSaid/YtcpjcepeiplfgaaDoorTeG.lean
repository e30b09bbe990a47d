/-
  The document's own print of a node. Condition: what the listed variables hold.
-/
import Derived.Test.YtcpjcepeiplfgaaDoorTeF
namespace Go.Proofs.YtcpjcepeiplfgaaDoor.C
open Go.RowKit

set_option maxRecDepth 100000 in
set_option maxHeartbeats 8000000 in
theorem refPrint_any (t : Tr) (A : Option Addr) (c : Nat) (hn : ∀ i, i < t.ns.length → nodeAt t i = true) (hg : t.g ≤ 9) (hs : ∀ x ∈ t.ns, Sized x) : ∀ i : Nat, i < t.ns.length → PrOk t A c (i : Int) := by
  intro i
  induction i using Nat.strongRecOn with
  | ind i ih =>
  intro hi w P xs hN hP hG hlen
  obtain ⟨x, hx⟩ : ∃ x, t.ns[i]? = some x := ⟨_, List.getElem?_eq_getElem hi⟩
  have hna := hn i hi
  unfold nodeAt at hna
  rw [hx] at hna
  simp only [Bool.and_eq_true, List.all_eq_true, decide_eq_true_eq] at hna
  have hok : ∀ k ∈ x.ks, PrOk t A c k := fun k hk => by
    obtain ⟨h0, h1⟩ := hna.2 k hk
    obtain ⟨kn, rfl⟩ : ∃ kn : Nat, k = (kn : Int) := ⟨k.toNat, by omega⟩
    exact ih kn (by omega) (by omega)
  have hpr := prI_eq hx hna.2
  obtain ⟨S, hS⟩ : ∃ S, w.heap.size = S := ⟨_, rfl⟩
  obtain ⟨W, hW⟩ : ∃ W, W = w.alloc (.cells #[.slice A t.ns.length c, .int .i64 t.g] 34) := ⟨_, rfl⟩
  have hb : Below w.heap.size w W := by rw [hW]; exact (Below.refl _ _).alloc (Nat.le_refl _) _
  have hr : Rw W S 34 #[.slice A t.ns.length c, .int .i64 t.g] := by rw [hW, ← hS]; exact heap_alloc_new w _
  have hsz : W.heap.size = S + 1 := by rw [hW, ← hS]; simp
  have hNW := hN.keep (below_cells hb hP)
  have c0 : W.cell? ⟨S, 0, none⟩ = some (.slice A t.ns.length c) := hr.cell (i := 0) rfl
  obtain ⟨ad, vR, vT, vK, rfl, -, h9, hnd⟩ := hNW.at_ hx
  have hnd0 := hnd
  obtain ⟨⟨AR, cR, rfl, -⟩, ⟨AT, cT, _, rfl, -⟩, ⟨AK, cK, rfl, -⟩⟩ := hnd
  have d0 := h9.c0
  have d1 := h9.c1
  have d2 := h9.c2
  have d3 := h9.c3
  have d4 := h9.c4
  have d5 := h9.c5
  have d6 := h9.c6
  have d7 := h9.c7
  have d8 := h9.c8
  obtain ⟨w4, hw4⟩ : ∃ w4, w4 = W.alloc (.cells #[.int .u8 x.k, .int .i32 x.c, .bool x.nt, .slice AR x.rs.length cR, .slice AT x.ts.length cT, .int .i64 x.n, .int .i64 x.mn, .int .i64 x.mx, .slice AK x.ks.length cK] 31) := ⟨_, rfl⟩
  have hb4 : Below W.heap.size W w4 := by rw [hw4]; exact (Below.refl _ _).alloc (Nat.le_refl _) _
  have hro : Rw w4 (S + 1) 31 (ndRow x (.slice AR x.rs.length cR) (.slice AT x.ts.length cT) (.slice AK x.ks.length cK)).toArray := by rw [hw4, ← hsz]; exact heap_alloc_new W _
  have hb04 : Below S w w4 := by rw [← hS]; exact hb.trans (hb4.mono (by omega))
  have HB4 := Lib.hid hb04
  have HS4 : Hid (w4.heap.size = S + 2) := Lib.hid (by rw [hw4]; simp [hsz])
  have HP4 : Hid (∀ b, P b → b < w4.heap.size) := Lib.hid (fun b h => by have := hP b h; have := HS4.out; omega)
  have hPW : ∀ b, P b → b < W.heap.size := fun b h => by have := hP b h; omega
  have HN4 : Hid (NdsP w4 P (some ad) t.ns xs) := Lib.hid (hNW.keep (below_cells hb4 hPW))
  have HND : Hid (NdP w4 P x (.slice AR x.rs.length cR) (.slice AT x.ts.length cT) (.slice AK x.ks.length cK)) := Lib.hid (hnd0.keep (below_cells hb4 hPW))
  have HK4 : Hid (KsP w4 P (.slice AK x.ks.length cK) x.ks) := Lib.hid HND.out.2.2
  have HGA : Hid (∀ w', Below S w w' → Gt w') := Lib.hid (fun w' hb => hG.next hb (by rw [← hS]; exact hG.lt))
  have HG4 : Hid (Gt w4) := Lib.hid (HGA.out _ hb04)
  have HRB : Hid (Rw w4 S 34 #[.slice (some ad) t.ns.length c, .int .i64 t.g]) := Lib.hid (hr.on hb4 (by omega))
  have HRO := Lib.hid hro
  have HPR := Lib.hid hpr
  have HOK := Lib.hid hok
  have HNB := Lib.hid hna.1
  have HGL := Lib.hid hg
  have HSZ : Hid (Sized x) := Lib.hid (hs x (List.mem_of_getElem? hx))
  have HLEN : Hid ((befT x).length + (joinP (betT x) (prI t) x.ks).length + (behT x).length ≤ 20000000) := Lib.hid (by
    rw [hpr] at hlen
    simpa only [List.length_append] using hlen)
  have p0 : w4.cell? ⟨S + 1, 0, none⟩ = some (.int .u8 x.k) := hro.cell (i := 0) rfl
  have p1 : w4.cell? ⟨S + 1, 1, none⟩ = some (.int .i32 x.c) := hro.cell (i := 1) rfl
  have p2 : w4.cell? ⟨S + 1, 2, none⟩ = some (.bool x.nt) := hro.cell (i := 2) rfl
  have p3 : w4.cell? ⟨S + 1, 3, none⟩ = some (.slice AR x.rs.length cR) := hro.cell (i := 3) rfl
  have p4 : w4.cell? ⟨S + 1, 4, none⟩ = some (.slice AT x.ts.length cT) := hro.cell (i := 4) rfl
  have p5 : w4.cell? ⟨S + 1, 5, none⟩ = some (.int .i64 x.n) := hro.cell (i := 5) rfl
  have p6 : w4.cell? ⟨S + 1, 6, none⟩ = some (.int .i64 x.mn) := hro.cell (i := 6) rfl
  have p7 : w4.cell? ⟨S + 1, 7, none⟩ = some (.int .i64 x.mx) := hro.cell (i := 7) rfl
  have p8 : w4.cell? ⟨S + 1, 8, none⟩ = some (.slice AK x.ks.length cK) := hro.cell (i := 8) rfl
  have b0 : w4.cell? ⟨S, 0, none⟩ = some (.slice (some ad) t.ns.length c) := HRB.out.cell (i := 0) rfl
  have b1 : w4.cell? ⟨S, 1, none⟩ = some (.int .i64 t.g) := HRB.out.cell (i := 1) rfl
  have hi' : (i : Int) < (t.ns.length : Int) := by omega
  rw [hS]
  clear ih hN hP hG hlen hn hs hok hpr hb hb4 hro hb04 hNW h9 hnd0 hPW hna hr hx hg
  go_enter Tryd.func45, Tryd.ntmps45
  go_upto_region 1 with fail
  rw [← hW]
  clear hW hS
  go_upto_block 0 with fail
  rw [← hw4]
  clear hw4 d0 d1 d2 d3 d4 d5 d6 d7 d8 c0 hsz
  by_cases hk : x.k = 1
  · have hks : x.ks = [] := by
      have h := HNB.out
      rw [nodeR1 t.g hk] at h
      simp only [Bool.and_eq_true, decide_eq_true_eq] at h
      exact List.length_eq_zero_iff.1 (by have := h; omega)
    have HF : Hid (str (prI t (i : Int)) = (⟨#[39]⟩ : ByteArray) ++ str (textL [x.c])) := Lib.hid (by
      rw [HPR.out, hks, show befT x = 39 :: textL [x.c] from by unfold befT; rw [hk]; rfl, show behT x = [] from by unfold behT; rw [hk]; rfl]
      show str (39 :: textL [x.c] ++ [] ++ []) = str [39] ++ str (textL [x.c])
      rw [str_appT, List.append_nil, List.append_nil]
      rfl)
    have e1 : (x.k == 1) = true := by rw [hk]; rfl
    clear hk hks
    have hc1 := refTextOf_any x.c w4
    obtain ⟨sk, hsk⟩ : ∃ sk, str (textL [x.c]) = sk := ⟨_, rfl⟩
    have hkz : sk.size ≤ 10 := by rw [← hsk, str_sizeE]; have := textL_le [x.c]; simpa using this
    rw [hsk] at hc1
    have HSK := Lib.hid hsk
    clear hsk
    have z1 : ¬ 9223372036854775807 < 1 + sk.size := by omega
    go_wp2_with fail
    refine hc1.mono ?_
    rintro e w5 ⟨rfl, hb5⟩
    have HE : Hid (Below S w w5) := Lib.hid (HB4.out.trans (hb5.mono (by have := HS4.out; omega)))
    clear hc1 hb5
    go_wp2
    go_ret
    exact ⟨by rw [HF.out, HSK.out]; rfl, HE.out⟩
  by_cases hk : x.k = 2
  · have hks : x.ks = [] := by
      have h := HNB.out
      rw [nodeR2 t.g hk] at h
      simp only [Bool.and_eq_true, decide_eq_true_eq] at h
      exact List.length_eq_zero_iff.1 (by have := h; omega)
    have HF : Hid (prI t (i : Int) = [46]) := Lib.hid (by
      rw [HPR.out, hks]
      unfold befT behT
      rw [hk]
      rfl)
    have e1 : (x.k == 1) = false := by rw [hk]; rfl
    have e2 : (x.k == 2) = true := by rw [hk]; rfl
    clear hk hks
    go_wp2
    go_ret
    exact ⟨by rw [HF.out]; rfl, HB4.out⟩
  by_cases hk : x.k = 4
  · have hks : x.ks = [] := by
      have h := HNB.out
      rw [nodeR4 t.g hk] at h
      simp only [Bool.and_eq_true, decide_eq_true_eq] at h
      exact List.length_eq_zero_iff.1 (by have := h; omega)
    have HF : Hid (prI t (i : Int) = [94]) := Lib.hid (by
      rw [HPR.out, hks]
      unfold befT behT
      rw [hk]
      rfl)
    have e1 : (x.k == 1) = false := by rw [hk]; rfl
    have e2 : (x.k == 2) = false := by rw [hk]; rfl
    have e4 : (x.k == 4) = true := by rw [hk]; rfl
    clear hk hks
    go_wp2
    go_ret
    exact ⟨by rw [HF.out]; rfl, HB4.out⟩
  by_cases hk : x.k = 5
  · have hks : x.ks = [] := by
      have h := HNB.out
      rw [nodeR5 t.g hk] at h
      simp only [Bool.and_eq_true, decide_eq_true_eq] at h
      exact List.length_eq_zero_iff.1 (by have := h; omega)
    have HF : Hid (prI t (i : Int) = [36]) := Lib.hid (by
      rw [HPR.out, hks]
      unfold befT behT
      rw [hk]
      rfl)
    have e1 : (x.k == 1) = false := by rw [hk]; rfl
    have e2 : (x.k == 2) = false := by rw [hk]; rfl
    have e4 : (x.k == 4) = false := by rw [hk]; rfl
    have e5 : (x.k == 5) = true := by rw [hk]; rfl
    clear hk hks
    go_wp2
    go_ret
    exact ⟨by rw [HF.out]; rfl, HB4.out⟩
  by_cases hk : x.k = 11
  · have hks : x.ks = [] := by
      have h := HNB.out
      rw [nodeR11 t.g hk] at h
      simp only [Bool.and_eq_true, decide_eq_true_eq] at h
      exact List.length_eq_zero_iff.1 (by have := h; omega)
    have HF : Hid (prI t (i : Int) = [40, 41]) := Lib.hid (by
      rw [HPR.out, hks]
      unfold befT behT
      rw [hk]
      rfl)
    have e1 : (x.k == 1) = false := by rw [hk]; rfl
    have e2 : (x.k == 2) = false := by rw [hk]; rfl
    have e4 : (x.k == 4) = false := by rw [hk]; rfl
    have e5 : (x.k == 5) = false := by rw [hk]; rfl
    have e11 : (x.k == 11) = true := by rw [hk]; rfl
    clear hk hks
    go_wp2
    go_ret
    exact ⟨by rw [HF.out]; rfl, HB4.out⟩
  by_cases hk : x.k = 6
  · have hn6 := nodeB_6 HNB.out hk
    have hks : x.ks = [] := by
      have h := HNB.out
      rw [nodeR6 t.g hk] at h
      simp only [Bool.and_eq_true, decide_eq_true_eq] at h
      exact List.length_eq_zero_iff.1 (by have := h; omega)
    have HF : Hid (str (prI t (i : Int)) = (⟨#[35]⟩ : ByteArray) ++ str (Lib.itoa x.n)) := Lib.hid (by
      rw [HPR.out, hks, show befT x = 35 :: Lib.itoa x.n from by unfold befT; rw [hk]; rfl, show behT x = [] from by unfold behT; rw [hk]; rfl]
      show str (35 :: Lib.itoa x.n ++ [] ++ []) = str [35] ++ str (Lib.itoa x.n)
      rw [str_appT, List.append_nil, List.append_nil]
      rfl)
    have HIT : Hid ((Lib.itoa x.n).length ≤ 20000000) := Lib.hid (by
      have h := HLEN.out
      rw [show befT x = 35 :: Lib.itoa x.n from by unfold befT; rw [hk]; rfl] at h
      simp only [List.length_cons] at h
      omega)
    have e1 : (x.k == 1) = false := by rw [hk]; rfl
    have e2 : (x.k == 2) = false := by rw [hk]; rfl
    have e4 : (x.k == 4) = false := by rw [hk]; rfl
    have e5 : (x.k == 5) = false := by rw [hk]; rfl
    have e11 : (x.k == 11) = false := by rw [hk]; rfl
    have e6 : (x.k == 6) = true := by rw [hk]; rfl
    clear hk hks
    have hc1 := itoa_any x.n (by omega) (by have := HGL.out; omega) w4 HG4.out
    obtain ⟨sk, hsk⟩ : ∃ sk, str (Lib.itoa x.n) = sk := ⟨_, rfl⟩
    have hkz : sk.size ≤ 20000000 := by rw [← hsk, str_sizeE]; exact HIT.out
    rw [hsk] at hc1
    have HSK := Lib.hid hsk
    clear hsk hn6
    have z1 : ¬ 9223372036854775807 < 1 + sk.size := by omega
    go_wp2_with fail
    refine hc1.mono ?_
    rintro e w5 ⟨rfl, hb5⟩
    have HE : Hid (Below S w w5) := Lib.hid (HB4.out.trans (hb5.mono (by have := HS4.out; omega)))
    clear hc1 hb5
    go_wp2
    go_ret
    exact ⟨by rw [HF.out, HSK.out]; rfl, HE.out⟩
  by_cases hk : x.k = 7
  · have hn7 := nodeB_7 HNB.out hk
    have HJL : Hid ((joinP [] (prI t) x.ks).length ≤ 20000000) := Lib.hid (by have h := HLEN.out; rw [show betT x = [] from by unfold betT; rw [hk]; rfl] at h; omega)
    have HF : Hid (str (prI t (i : Int)) = (⟨#[40]⟩ : ByteArray) ++ str (Lib.itoa x.n) ++ (⟨#[58]⟩ : ByteArray) ++ str (joinP [] (prI t) x.ks) ++ (⟨#[41]⟩ : ByteArray)) := Lib.hid (by
      rw [HPR.out, show betT x = [] from by unfold betT; rw [hk]; rfl, show befT x = 40 :: Lib.itoa x.n ++ [58] from by unfold befT; rw [hk]; rfl, show behT x = [41] from by unfold behT; rw [hk]; rfl]
      show _ = str [40] ++ str (Lib.itoa x.n) ++ str [58] ++ str (joinP [] (prI t) x.ks) ++ str [41]
      rw [str_appT, str_appT, str_appT, str_appT]
      rfl)
    have HIT : Hid ((Lib.itoa x.n).length ≤ 20000000) := Lib.hid (by
      have h := HLEN.out
      rw [show befT x = 40 :: Lib.itoa x.n ++ [58] from by unfold befT; rw [hk]; rfl] at h
      simp only [List.length_append, List.length_cons] at h
      omega)
    have e1 : (x.k == 1) = false := by rw [hk]; rfl
    have e2 : (x.k == 2) = false := by rw [hk]; rfl
    have e4 : (x.k == 4) = false := by rw [hk]; rfl
    have e5 : (x.k == 5) = false := by rw [hk]; rfl
    have e11 : (x.k == 11) = false := by rw [hk]; rfl
    have e6 : (x.k == 6) = false := by rw [hk]; rfl
    have e7 : (x.k == 7) = true := by rw [hk]; rfl
    clear hk
    have hc1 := itoa_any x.n (by omega) (by have := HGL.out; omega) w4.drew (HGA.out _ (below_drew HB4.out))
    obtain ⟨sn, hsn⟩ : ∃ sn, str (Lib.itoa x.n) = sn := ⟨_, rfl⟩
    have hnz : sn.size ≤ 20000000 := by rw [← hsn, str_sizeE]; exact HIT.out
    rw [hsn] at hc1
    have HSN := Lib.hid hsn
    obtain ⟨sk, hsk⟩ : ∃ sk, str (joinP [] (prI t) x.ks) = sk := ⟨_, rfl⟩
    have hkz : sk.size ≤ 20000000 := by rw [← hsk, str_sizeE]; exact HJL.out
    have HSK := Lib.hid hsk
    clear hsn hsk hn7
    have z1 : ¬ 9223372036854775807 < 1 + sn.size := by omega
    have z2 : ¬ 9223372036854775807 < 1 + sn.size + 1 := by omega
    have z3 : ¬ 9223372036854775807 < 1 + sn.size + 1 + sk.size := by omega
    have z4 : ¬ 9223372036854775807 < 1 + sn.size + 1 + sk.size + 1 := by omega
    go_upto_region 16 with fail
    have hS1 : (fun W' : World => W'.cell? ⟨S + 1, 5, none⟩ = some (.int .i64 x.n) ∧ W'.cell? ⟨S, 0, none⟩ = some (.slice (some ad) t.ns.length c) ∧ W'.cell? ⟨S, 1, none⟩ = some (.int .i64 t.g) ∧ W'.cell? ⟨S + 1, 8, none⟩ = some (.slice AK x.ks.length cK)) w4.drew := ⟨p5, b0, b1, p8⟩
    refine wp_region_held (S := (fun W' : World => W'.cell? ⟨S + 1, 5, none⟩ = some (.int .i64 x.n) ∧ W'.cell? ⟨S, 0, none⟩ = some (.slice (some ad) t.ns.length c) ∧ W'.cell? ⟨S, 1, none⟩ = some (.int .i64 t.g) ∧ W'.cell? ⟨S + 1, 8, none⟩ = some (.slice AK x.ks.length cK))) (by kernel_rfl) ?_
    change wpAnyH _ _ _ _ _ _ _ _ w4.drew
    refine wpHn 0 rfl ?_
    try simp only [Act.put, g1, g2, g3, g4, g6]
    refine wpHn 1 rfl ?_
    try simp only [Act.put, g1, g2, g3, g4, g5, g6]
    refine wpHn 5 rfl ?_
    try simp only [Act.put, g1, g2, g3, g4, g5, g6]
    refine wpHn 6 rfl ?_
    try simp only [Act.put, g1, g2, g3, g4, g5, g6]
    refine wpHn 7 rfl ?_
    try simp only [Act.put, g1, g2, g3, g4, g5, g6]
    refine wpAnyH_one (i := 2) (by kernel_rfl) rfl (fun K hK => ?_)
    simp only [g4, g5, g6]
    go_simp
    go_at_call 64
    with_reducible refine hc1.mono ?_
    rintro e w5 ⟨rfl, hb5⟩
    have hbw : Below w4.heap.size w4 w5 := (below_drew (Below.refl _ w4)).trans hb5
    have hs5 := hbw.size
    have HB5 : Hid (Below S w w5) := Lib.hid (HB4.out.trans (hbw.mono (by have := HS4.out; omega)))
    have HP5 : Hid (∀ b, P b → b < w5.heap.size) := Lib.hid (fun b h => by have := HP4.out b h; omega)
    have HN5 := Lib.hid (HN4.out.keep (below_cells hbw HP4.out))
    have HK5 := Lib.hid (HK4.out.keep (below_cells hbw HP4.out))
    have HS5 : Hid (S + 2 ≤ w5.heap.size) := Lib.hid (by have := HS4.out; omega)
    have hS5 : (fun W' : World => W'.cell? ⟨S + 1, 5, none⟩ = some (.int .i64 x.n) ∧ W'.cell? ⟨S, 0, none⟩ = some (.slice (some ad) t.ns.length c) ∧ W'.cell? ⟨S, 1, none⟩ = some (.int .i64 t.g) ∧ W'.cell? ⟨S + 1, 8, none⟩ = some (.slice AK x.ks.length cK)) w5 := ⟨below_cell hbw p5, below_cell hbw b0, below_cell hbw b1, below_cell hbw p8⟩
    refine hK.out _ _ hS5 (fun _ => ?_)
    clear hK hc1 hb5 hbw hs5 hS1
    try simp only [Act.put, g1, g2, g3, g4, g5, g6]
    refine wpHn 3 rfl ?_
    try simp only [Act.put, g1, g2, g3, g4, g5, g6]
    refine wpHn 4 rfl ?_
    try simp only [Act.put, g1, g2, g3, g4, g5, g6]
    have hkids : Calls Tryd.prog 65 #[.agg #[.slice (some ad) t.ns.length c, .int .i64 t.g], .slice AK x.ks.length cK, .string ⟨#[]⟩] w5 fun e w' => e = .returned (.string (str (joinP [] (prI t) x.ks))) ∧ Below w5.heap.size w5 w' := refKids_any t (some ad) c w5 P P xs x.ks _ [] HN5.out HP5.out (HGA.out _ HB5.out) HK5.out HP5.out (by simp) HOK.out HJL.out
    rw [HSK.out] at hkids
    refine wpAnyH_one (i := 8) (by kernel_rfl) rfl (fun K hK => ?_)
    simp only [g4, g5, g6]
    go_simp
    go_at_call 65
    with_reducible refine hkids.mono ?_
    rintro e w6 ⟨rfl, hb6⟩
    have HE : Hid (Below S w w6) := Lib.hid (HB5.out.trans (hb6.mono (by have := HS5.out; omega)))
    have hS6 : (fun W' : World => W'.cell? ⟨S + 1, 5, none⟩ = some (.int .i64 x.n) ∧ W'.cell? ⟨S, 0, none⟩ = some (.slice (some ad) t.ns.length c) ∧ W'.cell? ⟨S, 1, none⟩ = some (.int .i64 t.g) ∧ W'.cell? ⟨S + 1, 8, none⟩ = some (.slice AK x.ks.length cK)) w6 := ⟨below_cell hb6 hS5.1, below_cell hb6 hS5.2.1, below_cell hb6 hS5.2.2.1, below_cell hb6 hS5.2.2.2⟩
    refine hK.out _ _ hS6 (fun _ => ?_)
    clear hK hkids hb6 hS5
    try simp only [Act.put, g1, g2, g3, g4, g5, g6]
    refine wpHn 9 rfl ?_
    try simp only [Act.put, g1, g2, g3, g4, g5, g6]
    refine wpHn 10 rfl ?_
    try simp only [Act.put, g1, g2, g3, g4, g5, g6]
    refine wpAnyH_one (i := 11) (by kernel_rfl) rfl (fun K hK => ?_)
    simp only [g4, g5, g6]
    go_simp
    refine hK.out _ _ hS6 (fun _ => ?_)
    clear hK
    try simp only [Act.put, g1, g2, g3, g4, g5, g6]
    refine wpAnyH_done (by kernel_rfl) ?_ _
    clear hS6
    go_wp2
    go_ret
    exact ⟨by rw [HF.out, HSN.out, HSK.out]; rfl, HE.out⟩
  by_cases hk : x.k = 8
  · have HJL : Hid ((joinP [] (prI t) x.ks).length ≤ 20000000) := Lib.hid (by have h := HLEN.out; rw [show betT x = [] from by unfold betT; rw [hk]; rfl] at h; omega)
    have HF : Hid (prI t (i : Int) = joinP [] (prI t) x.ks) := Lib.hid (by
      rw [HPR.out, show betT x = [] from by unfold betT; rw [hk]; rfl, show befT x = [] from by unfold befT; rw [hk]; rfl, show behT x = [] from by unfold behT; rw [hk]; rfl, List.nil_append, List.append_nil])
    have e1 : (x.k == 1) = false := by rw [hk]; rfl
    have e2 : (x.k == 2) = false := by rw [hk]; rfl
    have e4 : (x.k == 4) = false := by rw [hk]; rfl
    have e5 : (x.k == 5) = false := by rw [hk]; rfl
    have e11 : (x.k == 11) = false := by rw [hk]; rfl
    have e6 : (x.k == 6) = false := by rw [hk]; rfl
    have e7 : (x.k == 7) = false := by rw [hk]; rfl
    have e8 : (x.k == 8) = true := by rw [hk]; rfl
    clear hk
    have hkids : Calls Tryd.prog 65 #[.agg #[.slice (some ad) t.ns.length c, .int .i64 t.g], .slice AK x.ks.length cK, .string ⟨#[]⟩] w4 fun e w' => e = .returned (.string (str (joinP [] (prI t) x.ks))) ∧ Below w4.heap.size w4 w' := refKids_any t (some ad) c w4 _ _ xs x.ks _ [] HN4.out HP4.out HG4.out HK4.out HP4.out (by simp) HOK.out HJL.out
    obtain ⟨sk, hsk⟩ : ∃ sk, str (joinP [] (prI t) x.ks) = sk := ⟨_, rfl⟩
    have hkz : sk.size ≤ 20000000 := by rw [← hsk, str_sizeE]; exact HJL.out
    rw [hsk] at hkids
    have HSK := Lib.hid hsk
    clear hsk
    go_wp2_with fail
    refine hkids.mono ?_
    rintro e w5 ⟨rfl, hb5⟩
    have HE : Hid (Below S w w5) := Lib.hid (HB4.out.trans (hb5.mono (by have := HS4.out; omega)))
    clear hkids hb5
    go_wp2
    go_ret
    exact ⟨by rw [HF.out, HSK.out]; rfl, HE.out⟩
  by_cases hk : x.k = 9
  · have HJL : Hid ((joinP [124] (prI t) x.ks).length ≤ 20000000) := Lib.hid (by have h := HLEN.out; rw [show betT x = [124] from by unfold betT; rw [hk]; rfl] at h; omega)
    have HF : Hid (str (prI t (i : Int)) = (⟨#[123]⟩ : ByteArray) ++ str (joinP [124] (prI t) x.ks) ++ (⟨#[125]⟩ : ByteArray)) := Lib.hid (by
      rw [HPR.out, show betT x = [124] from by unfold betT; rw [hk]; rfl, show befT x = [123] from by unfold befT; rw [hk]; rfl, show behT x = [125] from by unfold behT; rw [hk]; rfl]
      show _ = str [123] ++ str (joinP [124] (prI t) x.ks) ++ str [125]
      rw [str_appT, str_appT])
    have e1 : (x.k == 1) = false := by rw [hk]; rfl
    have e2 : (x.k == 2) = false := by rw [hk]; rfl
    have e4 : (x.k == 4) = false := by rw [hk]; rfl
    have e5 : (x.k == 5) = false := by rw [hk]; rfl
    have e11 : (x.k == 11) = false := by rw [hk]; rfl
    have e6 : (x.k == 6) = false := by rw [hk]; rfl
    have e7 : (x.k == 7) = false := by rw [hk]; rfl
    have e8 : (x.k == 8) = false := by rw [hk]; rfl
    have e9 : (x.k == 9) = true := by rw [hk]; rfl
    clear hk
    have hkids : Calls Tryd.prog 65 #[.agg #[.slice (some ad) t.ns.length c, .int .i64 t.g], .slice AK x.ks.length cK, .string ⟨#[124]⟩] w4 fun e w' => e = .returned (.string (str (joinP [124] (prI t) x.ks))) ∧ Below w4.heap.size w4 w' := refKids_any t (some ad) c w4 _ _ xs x.ks _ [124] HN4.out HP4.out HG4.out HK4.out HP4.out (by simp) HOK.out HJL.out
    obtain ⟨sk, hsk⟩ : ∃ sk, str (joinP [124] (prI t) x.ks) = sk := ⟨_, rfl⟩
    have hkz : sk.size ≤ 20000000 := by rw [← hsk, str_sizeE]; exact HJL.out
    rw [hsk] at hkids
    have HSK := Lib.hid hsk
    clear hsk
    have z1 : ¬ 9223372036854775807 < 1 + sk.size := by omega
    have z2 : ¬ 9223372036854775807 < 1 + sk.size + 1 := by omega
    go_wp2_with fail
    refine hkids.mono ?_
    rintro e w5 ⟨rfl, hb5⟩
    have HE : Hid (Below S w w5) := Lib.hid (HB4.out.trans (hb5.mono (by have := HS4.out; omega)))
    clear hkids hb5
    go_wp2
    go_ret
    exact ⟨by rw [HF.out, HSK.out]; rfl, HE.out⟩
  by_cases hk : x.k = 10
  · have hn10 := nodeB_10 HNB.out hk
    have HJL : Hid ((joinP [] (prI t) x.ks).length ≤ 20000000) := Lib.hid (by have h := HLEN.out; rw [show betT x = [] from by unfold betT; rw [hk]; rfl] at h; omega)
    have HF : Hid (str (prI t (i : Int)) = str (joinP [] (prI t) x.ks) ++ (⟨#[42]⟩ : ByteArray) ++ str (Lib.itoa x.mn) ++ (⟨#[44]⟩ : ByteArray) ++ str (Lib.itoa x.mx)) := Lib.hid (by
      rw [HPR.out, show betT x = [] from by unfold betT; rw [hk]; rfl, show befT x = [] from by unfold befT; rw [hk]; rfl, show behT x = 42 :: Lib.itoa x.mn ++ 44 :: Lib.itoa x.mx from by unfold behT; rw [hk]; rfl]
      show _ = str (joinP [] (prI t) x.ks) ++ str [42] ++ str (Lib.itoa x.mn) ++ str [44] ++ str (Lib.itoa x.mx)
      rw [str_appT, str_appT, str_appT, str_appT]
      simp)
    have HIT : Hid ((Lib.itoa x.mn).length ≤ 20000000 ∧ (Lib.itoa x.mx).length ≤ 20000000) := Lib.hid (by
      have h := HLEN.out
      rw [show behT x = 42 :: Lib.itoa x.mn ++ 44 :: Lib.itoa x.mx from by unfold behT; rw [hk]; rfl] at h
      simp only [List.length_append, List.length_cons] at h
      omega)
    have e1 : (x.k == 1) = false := by rw [hk]; rfl
    have e2 : (x.k == 2) = false := by rw [hk]; rfl
    have e4 : (x.k == 4) = false := by rw [hk]; rfl
    have e5 : (x.k == 5) = false := by rw [hk]; rfl
    have e11 : (x.k == 11) = false := by rw [hk]; rfl
    have e6 : (x.k == 6) = false := by rw [hk]; rfl
    have e7 : (x.k == 7) = false := by rw [hk]; rfl
    have e8 : (x.k == 8) = false := by rw [hk]; rfl
    have e9 : (x.k == 9) = false := by rw [hk]; rfl
    have e10 : (x.k == 10) = true := by rw [hk]; rfl
    clear hk
    obtain ⟨sn, hsn⟩ : ∃ sn, str (Lib.itoa x.mn) = sn := ⟨_, rfl⟩
    have hnz : sn.size ≤ 20000000 := by rw [← hsn, str_sizeE]; exact HIT.out.1
    have HSN := Lib.hid hsn
    obtain ⟨sx, hsx⟩ : ∃ sx, str (Lib.itoa x.mx) = sx := ⟨_, rfl⟩
    have hxz : sx.size ≤ 20000000 := by rw [← hsx, str_sizeE]; exact HIT.out.2
    have HSX := Lib.hid hsx
    obtain ⟨sk, hsk⟩ : ∃ sk, str (joinP [] (prI t) x.ks) = sk := ⟨_, rfl⟩
    have hkz : sk.size ≤ 20000000 := by rw [← hsk, str_sizeE]; exact HJL.out
    have HSK := Lib.hid hsk
    have HN10 := Lib.hid hn10
    clear hsn hsk hsx hn10
    have z1 : ¬ 9223372036854775807 < sk.size + 1 := by omega
    have z2 : ¬ 9223372036854775807 < sk.size + 1 + sn.size := by omega
    have z3 : ¬ 9223372036854775807 < sk.size + 1 + sn.size + 1 := by omega
    have z4 : ¬ 9223372036854775807 < sk.size + 1 + sn.size + 1 + sx.size := by omega
    go_upto_region 22 with fail
    have hS1 : (fun W' : World => W'.cell? ⟨S + 1, 6, none⟩ = some (.int .i64 x.mn) ∧ W'.cell? ⟨S + 1, 7, none⟩ = some (.int .i64 x.mx) ∧ W'.cell? ⟨S, 0, none⟩ = some (.slice (some ad) t.ns.length c) ∧ W'.cell? ⟨S, 1, none⟩ = some (.int .i64 t.g) ∧ W'.cell? ⟨S + 1, 8, none⟩ = some (.slice AK x.ks.length cK)) w4.drew := ⟨p6, p7, b0, b1, p8⟩
    refine wp_region_held (S := (fun W' : World => W'.cell? ⟨S + 1, 6, none⟩ = some (.int .i64 x.mn) ∧ W'.cell? ⟨S + 1, 7, none⟩ = some (.int .i64 x.mx) ∧ W'.cell? ⟨S, 0, none⟩ = some (.slice (some ad) t.ns.length c) ∧ W'.cell? ⟨S, 1, none⟩ = some (.int .i64 t.g) ∧ W'.cell? ⟨S + 1, 8, none⟩ = some (.slice AK x.ks.length cK))) (by kernel_rfl) ?_
    change wpAnyH _ _ _ _ _ _ _ _ w4.drew
    refine wpHn 0 rfl ?_
    try simp only [Act.put, g1, g2, g3, g4, g6]
    refine wpHn 1 rfl ?_
    try simp only [Act.put, g1, g2, g3, g4, g5, g6]
    refine wpHn 2 rfl ?_
    try simp only [Act.put, g1, g2, g3, g4, g5, g6]
    refine wpHn 5 rfl ?_
    try simp only [Act.put, g1, g2, g3, g4, g5, g6]
    refine wpHn 6 rfl ?_
    try simp only [Act.put, g1, g2, g3, g4, g5, g6]
    refine wpHn 10 rfl ?_
    try simp only [Act.put, g1, g2, g3, g4, g5, g6]
    refine wpHn 11 rfl ?_
    try simp only [Act.put, g1, g2, g3, g4, g5, g6]
    have hkids : Calls Tryd.prog 65 #[.agg #[.slice (some ad) t.ns.length c, .int .i64 t.g], .slice AK x.ks.length cK, .string ⟨#[]⟩] w4.drew fun e w' => e = .returned (.string (str (joinP [] (prI t) x.ks))) ∧ Below w4.drew.heap.size w4.drew w' := refKids_any t (some ad) c w4.drew P P xs x.ks _ [] (HN4.out.keep (w' := w4.drew) fun _ _ => rfl) HP4.out (HGA.out _ (below_drew HB4.out)) (HK4.out.keep (w' := w4.drew) fun _ _ => rfl) HP4.out (by simp) HOK.out HJL.out
    rw [HSK.out] at hkids
    refine wpAnyH_one (i := 3) (by kernel_rfl) rfl (fun K hK => ?_)
    simp only [g4, g5, g6]
    go_simp
    go_at_call 65
    with_reducible refine hkids.mono ?_
    rintro e w5 ⟨rfl, hb5⟩
    have hbw : Below w4.heap.size w4 w5 := (below_drew (Below.refl _ w4)).trans hb5
    have hs5 := hbw.size
    have HB5 : Hid (Below S w w5) := Lib.hid (HB4.out.trans (hbw.mono (by have := HS4.out; omega)))
    have HS5 : Hid (S + 2 ≤ w5.heap.size) := Lib.hid (by have := HS4.out; omega)
    have hS5 : (fun W' : World => W'.cell? ⟨S + 1, 6, none⟩ = some (.int .i64 x.mn) ∧ W'.cell? ⟨S + 1, 7, none⟩ = some (.int .i64 x.mx) ∧ W'.cell? ⟨S, 0, none⟩ = some (.slice (some ad) t.ns.length c) ∧ W'.cell? ⟨S, 1, none⟩ = some (.int .i64 t.g) ∧ W'.cell? ⟨S + 1, 8, none⟩ = some (.slice AK x.ks.length cK)) w5 := ⟨below_cell hbw p6, below_cell hbw p7, below_cell hbw b0, below_cell hbw b1, below_cell hbw p8⟩
    refine hK.out _ _ hS5 (fun _ => ?_)
    clear hK hkids hb5 hbw hs5 hS1
    try simp only [Act.put, g1, g2, g3, g4, g5, g6]
    refine wpHn 4 rfl ?_
    try simp only [Act.put, g1, g2, g3, g4, g5, g6]
    have hc1 := itoa_any x.mn (by have := HN10.out; omega) (by have := HN10.out; omega) w5 (HGA.out _ HB5.out)
    rw [HSN.out] at hc1
    refine wpAnyH_one (i := 7) (by kernel_rfl) rfl (fun K hK => ?_)
    simp only [g4, g5, g6]
    go_simp
    go_at_call 64
    with_reducible refine hc1.mono ?_
    rintro e w6 ⟨rfl, hb6⟩
    have hs6 := hb6.size
    have HB6 : Hid (Below S w w6) := Lib.hid (HB5.out.trans (hb6.mono (by have := HS5.out; omega)))
    have HS6 : Hid (S + 2 ≤ w6.heap.size) := Lib.hid (by have := HS5.out; omega)
    have hS6 : (fun W' : World => W'.cell? ⟨S + 1, 6, none⟩ = some (.int .i64 x.mn) ∧ W'.cell? ⟨S + 1, 7, none⟩ = some (.int .i64 x.mx) ∧ W'.cell? ⟨S, 0, none⟩ = some (.slice (some ad) t.ns.length c) ∧ W'.cell? ⟨S, 1, none⟩ = some (.int .i64 t.g) ∧ W'.cell? ⟨S + 1, 8, none⟩ = some (.slice AK x.ks.length cK)) w6 := ⟨below_cell hb6 hS5.1, below_cell hb6 hS5.2.1, below_cell hb6 hS5.2.2.1, below_cell hb6 hS5.2.2.2.1, below_cell hb6 hS5.2.2.2.2⟩
    refine hK.out _ _ hS6 (fun _ => ?_)
    clear hK hc1 hb6 hs6 hS5
    try simp only [Act.put, g1, g2, g3, g4, g5, g6]
    refine wpHn 8 rfl ?_
    try simp only [Act.put, g1, g2, g3, g4, g5, g6]
    refine wpHn 9 rfl ?_
    try simp only [Act.put, g1, g2, g3, g4, g5, g6]
    have hc2 := itoa_any x.mx (by have := HN10.out; omega) (by have := HN10.out; omega) w6 (HGA.out _ HB6.out)
    rw [HSX.out] at hc2
    refine wpAnyH_one (i := 12) (by kernel_rfl) rfl (fun K hK => ?_)
    simp only [g4, g5, g6]
    go_simp
    go_at_call 64
    with_reducible refine hc2.mono ?_
    rintro e w7 ⟨rfl, hb7⟩
    have HE : Hid (Below S w w7) := Lib.hid (HB6.out.trans (hb7.mono (by have := HS6.out; omega)))
    have hS7 : (fun W' : World => W'.cell? ⟨S + 1, 6, none⟩ = some (.int .i64 x.mn) ∧ W'.cell? ⟨S + 1, 7, none⟩ = some (.int .i64 x.mx) ∧ W'.cell? ⟨S, 0, none⟩ = some (.slice (some ad) t.ns.length c) ∧ W'.cell? ⟨S, 1, none⟩ = some (.int .i64 t.g) ∧ W'.cell? ⟨S + 1, 8, none⟩ = some (.slice AK x.ks.length cK)) w7 := ⟨below_cell hb7 hS6.1, below_cell hb7 hS6.2.1, below_cell hb7 hS6.2.2.1, below_cell hb7 hS6.2.2.2.1, below_cell hb7 hS6.2.2.2.2⟩
    refine hK.out _ _ hS7 (fun _ => ?_)
    clear hK hc2 hb7 hS6
    try simp only [Act.put, g1, g2, g3, g4, g5, g6]
    refine wpHn 13 rfl ?_
    try simp only [Act.put, g1, g2, g3, g4, g5, g6]
    refine wpAnyH_one (i := 14) (by kernel_rfl) rfl (fun K hK => ?_)
    simp only [g4, g5, g6]
    go_simp
    refine hK.out _ _ hS7 (fun _ => ?_)
    clear hK
    try simp only [Act.put, g1, g2, g3, g4, g5, g6]
    refine wpAnyH_done (by kernel_rfl) ?_ _
    clear hS7
    go_wp2
    go_ret
    exact ⟨by rw [HF.out, HSN.out, HSK.out, HSX.out]; rfl, HE.out⟩
  have hk3 : x.k = 3 := by
    have h := HNB.out
    rcases Decidable.em (x.k = 3) with h3 | h3
    · exact h3
    · rw [nodeR_else t.g (by refine ⟨?_, ?_, ?_, ?_, ?_, ?_, ?_, ?_, ?_, ?_, ?_⟩ <;> assumption)] at h
      cases h
  have HSB : Hid (setB x = true) := Lib.hid (nodeB_3 HNB.out hk3)
  have hks : x.ks = [] := by
    have h := HNB.out
    rw [nodeR3 t.g hk3] at h
    simp only [Bool.and_eq_true, decide_eq_true_eq] at h
    exact List.length_eq_zero_iff.1 (by have := h; omega)
  have HPS : Hid (prI t (i : Int) = setT x) := Lib.hid (by
    rw [HPR.out, hks, show befT x = setT x from by unfold befT; rw [hk3]; rfl, show behT x = [] from by unfold behT; rw [hk3]; rfl]
    show setT x ++ [] ++ [] = setT x
    rw [List.append_nil, List.append_nil])
  have HLS : Hid ((setT x).length ≤ 20000000) := Lib.hid (by
    have h := HLEN.out
    rw [show befT x = setT x from by unfold befT; rw [hk3]; rfl] at h
    omega)
  have hk := hk3
  have e1 : (x.k == 1) = false := by rw [hk]; rfl
  have e2 : (x.k == 2) = false := by rw [hk]; rfl
  have e4 : (x.k == 4) = false := by rw [hk]; rfl
  have e5 : (x.k == 5) = false := by rw [hk]; rfl
  have e11 : (x.k == 11) = false := by rw [hk]; rfl
  have e6 : (x.k == 6) = false := by rw [hk]; rfl
  have e7 : (x.k == 7) = false := by rw [hk]; rfl
  have e8 : (x.k == 8) = false := by rw [hk]; rfl
  have e9 : (x.k == 9) = false := by rw [hk]; rfl
  have e10 : (x.k == 10) = false := by rw [hk]; rfl
  obtain ⟨n, hn⟩ : ∃ n, n = x.rs.length := ⟨_, rfl⟩
  obtain ⟨m, hm⟩ : ∃ m, m = x.ts.length := ⟨_, rfl⟩
  have HNN := Lib.hid hn
  have HMM := Lib.hid hm
  rw [← hn] at p3
  rw [← hm] at p4
  have H0 := Lib.hid (Below.refl w4.heap.size w4)
  clear hk hk3 hks hn hm
  go_upto_if 81 with fail
  go_cut [6] (fun sv wx => sv = .string (str (preT x.nt)) ∧ w4 = wx)
  case first =>
    obtain ⟨nb, hnb⟩ : ∃ nb, x.nt = nb := ⟨_, rfl⟩
    rw [hnb] at p2 ⊢
    have HNT := Lib.hid hnb
    clear hnb
    rcases nb with _ | _
    · go_wp2
      go_meet
      exact ⟨by rw [HNT.out]; rfl, rfl⟩
    · go_wp2
      go_meet
      exact ⟨by rw [HNT.out]; first | rfl | (show Value.string (str [91] ++ str [94]) = _; rw [str_appT]; rfl), rfl⟩
  case rest =>
    generalize wc = wx at *
    obtain ⟨rfl, rfl⟩ := hcut
    go_upto_block 1 with fail
    go_cut [6] (fun sv wx => sv = .string (str (preT x.nt ++ x.rs.flatMap rngT)) ∧ Hid (Below w4.heap.size w4 wx))
    case first =>
      go_wp2
      go_loopw [6, 7] (fun sv iv wr => ∃ j : Nat, j ≤ n ∧ sv = .string (str (preT x.nt ++ (x.rs.take j).flatMap rngT)) ∧ iv = .int .i64 j ∧ Hid (Below w4.heap.size w4 wr)) (fun _ iv _ => n - (intOf iv).toNat)
      case atStart => exact ⟨0, Nat.zero_le _, by simp, rfl, H0⟩
      case round =>
        clear H0
        obtain ⟨j, hjn, rfl, rfl, HQ⟩ := hrel
        have q3 : wr.cell? ⟨S + 1, 3, none⟩ = some (.slice AR n cR) := below_cell HQ.out p3
        by_cases hlt : j < n
        · obtain ⟨⟨lo, hi⟩, hr⟩ : ∃ r, x.rs[j]? = some r := ⟨_, List.getElem?_eq_getElem (by have := HNN.out; omega)⟩
          obtain ⟨A', c', hv, hsi, -⟩ := HND.out.1.keep (below_cells HQ.out HP4.out)
          injection hv with hA _ hc
          subst hA hc
          obtain ⟨ar, u, v, rfl, hPa, hx, d0, d1⟩ := hsi.at2 (k := j) (by have := HNN.out; omega)
          obtain ⟨r, hr', rfl, rfl⟩ := prRow_at hx
          rw [hr] at hr'
          injection hr' with hr'
          subst hr'
          have HRI := Lib.hid hr
          obtain ⟨sj, hsj⟩ : ∃ sj, str (preT x.nt ++ (x.rs.take j).flatMap rngT) = sj := ⟨_, rfl⟩
          have hjz : sj.size ≤ 20000002 := by
            rw [← hsj, str_sizeE, List.length_append]
            have h0 := preT_len x.nt
            have h1 := flat_take_len (f := rngT) x.rs j
            have h2 := HLS.out
            rw [setT_parts] at h2
            simp only [List.length_append] at h2
            omega
          obtain ⟨sa, hsa⟩ : ∃ sa, str (textL [lo]) = sa := ⟨_, rfl⟩
          obtain ⟨sb, hsb⟩ : ∃ sb, str (textL [hi]) = sb := ⟨_, rfl⟩
          have hla : sa.size ≤ 10 := by rw [← hsa, str_sizeE]; have := textL_le [lo]; simpa using this
          have hlb : sb.size ≤ 10 := by rw [← hsb, str_sizeE]; have := textL_le [hi]; simpa using this
          have HNX : Hid (str (preT x.nt ++ (x.rs.take (j + 1)).flatMap rngT) = sj ++ sa ++ (⟨#[45]⟩ : ByteArray) ++ sb ++ (⟨#[32]⟩ : ByteArray)) := Lib.hid (by
            rw [flat_take hr, ← hsj, ← hsa, ← hsb]
            show _ = str (preT x.nt ++ (x.rs.take j).flatMap rngT) ++ str (textL [lo]) ++ str [45] ++ str (textL [hi]) ++ str [32]
            rw [str_appT, str_appT, str_appT, str_appT]
            congr 1
            simp [rngT])
          have z1 : ¬ 9223372036854775807 < sj.size + sa.size := by omega
          have z2 : ¬ 9223372036854775807 < sj.size + sa.size + 1 := by omega
          have z3 : ¬ 9223372036854775807 < sj.size + sa.size + 1 + sb.size := by omega
          have z4 : ¬ 9223372036854775807 < sj.size + sa.size + 1 + sb.size + 1 := by omega
          have wj : IntKind.i64.wrap ((j : Int) + 1) = (j : Int) + 1 := by rw [IntKind.wrap_i64]; have := HNN.out; have := HSZ.out.1; omega
          have hlt' : (j : Int) < (n : Int) := by omega
          have hc1 := refTextOf_any lo wr.drew
          rw [hsa] at hc1
          have hc2 := fun W => refTextOf_any hi W
          rw [hsb] at hc2
          have HWR : Hid (w4.heap.size ≤ wr.heap.size) := Lib.hid HQ.out.size
          rw [hsj]
          clear hr hsi hx hPa hsj hsa hsb hjz hla hlb
          go_upto_region 29 with fail
          have hS1 : (fun W' : World => W'.cell? ⟨S + 1, 3, none⟩ = some (.slice (some ar) n cR) ∧ W'.cell? (ar.add (j * 2)) = some (.int .i32 lo) ∧ W'.cell? ⟨(ar.add (j * 2)).block, (ar.add (j * 2)).off + 1, none⟩ = some (.int .i32 hi)) wr.drew := ⟨q3, d0, d1⟩
          refine wp_region_held (S := (fun W' : World => W'.cell? ⟨S + 1, 3, none⟩ = some (.slice (some ar) n cR) ∧ W'.cell? (ar.add (j * 2)) = some (.int .i32 lo) ∧ W'.cell? ⟨(ar.add (j * 2)).block, (ar.add (j * 2)).off + 1, none⟩ = some (.int .i32 hi))) (by kernel_rfl) ?_
          change wpAnyH _ _ _ _ _ _ _ _ wr.drew
          refine wpHn 0 rfl ?_
          try simp only [Act.put, g1, g2, g3, g4, g6]
          refine wpHn 1 rfl ?_
          try simp only [Act.put, g1, g2, g3, g4, g5, g6]
          refine wpHn 2 rfl ?_
          try simp only [Act.put, g1, g2, g3, g4, g5, g6]
          refine wpHn 3 rfl ?_
          try simp only [Act.put, g1, g2, g3, g4, g5, g6]
          refine wpHn 4 rfl ?_
          try simp only [Act.put, g1, g2, g3, g4, g5, g6]
          refine wpHn 5 rfl ?_
          try simp only [Act.put, g1, g2, g3, g4, g5, g6]
          refine wpHn 6 rfl ?_
          try simp only [Act.put, g1, g2, g3, g4, g5, g6]
          refine wpHn 7 rfl ?_
          try simp only [Act.put, g1, g2, g3, g4, g5, g6]
          refine wpHn 11 rfl ?_
          try simp only [Act.put, g1, g2, g3, g4, g5, g6]
          refine wpHn 12 rfl ?_
          try simp only [Act.put, g1, g2, g3, g4, g5, g6]
          refine wpHn 13 rfl ?_
          try simp only [Act.put, g1, g2, g3, g4, g5, g6]
          refine wpHn 14 rfl ?_
          try simp only [Act.put, g1, g2, g3, g4, g5, g6]
          refine wpHn 15 rfl ?_
          try simp only [Act.put, g1, g2, g3, g4, g5, g6]
          refine wpHn 16 rfl ?_
          try simp only [Act.put, g1, g2, g3, g4, g5, g6]
          refine wpHn 17 rfl ?_
          try simp only [Act.put, g1, g2, g3, g4, g5, g6]
          refine wpAnyH_one (i := 8) (by kernel_rfl) rfl (fun K hK => ?_)
          simp only [g4, g5, g6]
          go_simp
          go_at_call 63
          with_reducible refine hc1.mono ?_
          rintro e w5 ⟨rfl, hb5⟩
          have hbw : Below wr.heap.size wr w5 := (below_drew (Below.refl _ wr)).trans hb5
          have HB5 : Hid (Below w4.heap.size w4 w5) := Lib.hid (HQ.out.trans (hbw.mono HWR.out))
          have HW5 : Hid (w4.heap.size ≤ w5.heap.size) := Lib.hid HB5.out.size
          have hS5 : (fun W' : World => W'.cell? ⟨S + 1, 3, none⟩ = some (.slice (some ar) n cR) ∧ W'.cell? (ar.add (j * 2)) = some (.int .i32 lo) ∧ W'.cell? ⟨(ar.add (j * 2)).block, (ar.add (j * 2)).off + 1, none⟩ = some (.int .i32 hi)) w5 := ⟨below_cell hbw q3, below_cell hbw d0, below_cell hbw d1⟩
          refine hK.out _ _ hS5 (fun _ => ?_)
          clear hK hc1 hb5 hbw hS1
          try simp only [Act.put, g1, g2, g3, g4, g5, g6]
          refine wpHn 9 rfl ?_
          try simp only [Act.put, g1, g2, g3, g4, g5, g6]
          refine wpHn 10 rfl ?_
          try simp only [Act.put, g1, g2, g3, g4, g5, g6]
          refine wpAnyH_one (i := 18) (by kernel_rfl) rfl (fun K hK => ?_)
          simp only [g4, g5, g6]
          go_simp
          go_at_call 63
          with_reducible refine (hc2 _).mono ?_
          rintro e w6 ⟨rfl, hb6⟩
          have HE : Hid (Below w4.heap.size w4 w6) := Lib.hid (HB5.out.trans (hb6.mono HW5.out))
          have hS6 : (fun W' : World => W'.cell? ⟨S + 1, 3, none⟩ = some (.slice (some ar) n cR) ∧ W'.cell? (ar.add (j * 2)) = some (.int .i32 lo) ∧ W'.cell? ⟨(ar.add (j * 2)).block, (ar.add (j * 2)).off + 1, none⟩ = some (.int .i32 hi)) w6 := ⟨below_cell hb6 hS5.1, below_cell hb6 hS5.2.1, below_cell hb6 hS5.2.2⟩
          refine hK.out _ _ hS6 (fun _ => ?_)
          clear hK hc2 hb6 hS5
          try simp only [Act.put, g1, g2, g3, g4, g5, g6]
          refine wpHn 19 rfl ?_
          try simp only [Act.put, g1, g2, g3, g4, g5, g6]
          refine wpHn 20 rfl ?_
          try simp only [Act.put, g1, g2, g3, g4, g5, g6]
          refine wpAnyH_one (i := 21) (by kernel_rfl) rfl (fun K hK => ?_)
          simp only [g4, g5, g6]
          go_simp
          refine hK.out _ _ hS6 (fun _ => ?_)
          clear hK
          try simp only [Act.put, g1, g2, g3, g4, g5, g6]
          refine wpAnyH_done (by kernel_rfl) ?_ _
          clear hS6
          go_wp2
          go_roundw
          case rel => exact ⟨j + 1, by omega, by rw [HNX.out], by go_num, HE⟩
          case measure => simp [intOf]; omega
        · obtain rfl : j = n := by omega
          have HT : Hid (x.rs.take j = x.rs) := Lib.hid (by rw [HNN.out, List.take_length])
          go_wp2
          go_meet
          exact ⟨by rw [HT.out], HQ⟩
    case rest =>
      generalize wc = wy at *
      obtain ⟨rfl, HW⟩ := hcut
      go_wp2
      go_loopw [6, 8] (fun sv iv wq => ∃ j : Nat, j ≤ m ∧ sv = .string (str (preT x.nt ++ x.rs.flatMap rngT ++ (x.ts.take j).flatMap txtT)) ∧ iv = .int .i64 j ∧ Hid (Below w4.heap.size w4 wq)) (fun _ iv _ => m - (intOf iv).toNat)
      case atStart => exact ⟨0, Nat.zero_le _, by simp, rfl, HW⟩
      case round =>
        clear HW
        obtain ⟨j, hjm, rfl, rfl, HQ⟩ := hrel
        have q4 : wr.cell? ⟨S + 1, 4, none⟩ = some (.slice AT m cT) := below_cell HQ.out p4
        by_cases hlt : j < m
        · obtain ⟨tx, ht⟩ : ∃ tx, x.ts[j]? = some tx := ⟨_, List.getElem?_eq_getElem (by have := HMM.out; omega)⟩
          obtain ⟨A', c', us', hv, hsi, -, htt⟩ := HND.out.2.1.keep (below_cells HQ.out HP4.out)
          injection hv with hA _ hc
          subst hA hc
          obtain ⟨a, d, hu, hri, htm⟩ := htt j tx ht
          obtain ⟨at', u, rfl, hPa, hx, d0⟩ := hsi.at1 (k := j) (by have := HMM.out; omega)
          rw [hu] at hx
          injection hx with hx
          injection hx with hx
          subst hx
          have ht4 : tx.length ≤ 4 := by
            have hset := HSB.out
            unfold setB at hset
            rw [Bool.and_eq_true, List.all_eq_true, List.all_eq_true] at hset
            have := hset.2 tx (List.mem_of_getElem? ht)
            unfold txtOk at this
            simp only [Bool.and_eq_true, decide_eq_true_eq] at this
            exact this.1.2
          have hc1 := refText_any wr wr.heap.size a tx.length d tx (hri.ri (fun b hb => Nat.lt_of_lt_of_le (HP4.out b hb) HQ.out.size)) (Nat.le_refl _) (by omega)
          obtain ⟨sj, hsj⟩ : ∃ sj, str (preT x.nt ++ x.rs.flatMap rngT ++ (x.ts.take j).flatMap txtT) = sj := ⟨_, rfl⟩
          have hjz : sj.size ≤ 20000002 := by
            rw [← hsj, str_sizeE, List.length_append, List.length_append]
            have h1 := flat_take_len (f := txtT) x.ts j
            have h2 := HLS.out
            rw [setT_parts] at h2
            simp only [List.length_append] at h2
            omega
          obtain ⟨sa, hsa⟩ : ∃ sa, str (textL tx) = sa := ⟨_, rfl⟩
          have hla : sa.size ≤ 40 := by rw [← hsa, str_sizeE]; have := textL_le tx; omega
          have HNX : Hid (str (preT x.nt ++ x.rs.flatMap rngT ++ (x.ts.take (j + 1)).flatMap txtT) = sj ++ (⟨#[61]⟩ : ByteArray) ++ sa ++ (⟨#[32]⟩ : ByteArray)) := Lib.hid (by
            rw [flat_take ht, ← hsj, ← hsa]
            show _ = str (preT x.nt ++ x.rs.flatMap rngT ++ (x.ts.take j).flatMap txtT) ++ str [61] ++ str (textL tx) ++ str [32]
            rw [str_appT, str_appT, str_appT]
            congr 1
            simp [txtT])
          have z1 : ¬ 9223372036854775807 < sj.size + 1 := by omega
          have z2 : ¬ 9223372036854775807 < sj.size + 1 + sa.size := by omega
          have z3 : ¬ 9223372036854775807 < sj.size + 1 + sa.size + 1 := by omega
          have wj : IntKind.i64.wrap ((j : Int) + 1) = (j : Int) + 1 := by rw [IntKind.wrap_i64]; have := HMM.out; have := HSZ.out.2; omega
          have hlt' : (j : Int) < (m : Int) := by omega
          rw [hsa] at hc1
          rw [hsj]
          have HWR : Hid (w4.heap.size ≤ wr.heap.size) := Lib.hid HQ.out.size
          clear ht hsi htt hri htm hPa hu ht4 hsj hsa hjz hla
          go_wp2_with fail
          refine hc1.mono ?_
          rintro e w5 ⟨rfl, hb5⟩
          have HE : Hid (Below w4.heap.size w4 w5) := Lib.hid (HQ.out.trans (hb5.mono HWR.out))
          clear hc1 hb5
          go_wp2
          go_roundw
          case rel => exact ⟨j + 1, by omega, by rw [HNX.out], by go_num, HE⟩
          case measure => simp [intOf]; omega
        · obtain rfl : j = m := by omega
          have HT : Hid (x.ts.take j = x.ts) := Lib.hid (by rw [HMM.out, List.take_length])
          have HE : Hid (Below S w wr) := Lib.hid (HB4.out.trans (HQ.out.mono (by have := HS4.out; omega)))
          obtain ⟨sj, hsj⟩ : ∃ sj, str (preT x.nt ++ x.rs.flatMap rngT ++ x.ts.flatMap txtT) = sj := ⟨_, rfl⟩
          have hjz : sj.size ≤ 20000002 := by
            rw [← hsj, str_sizeE, List.length_append, List.length_append]
            have h2 := HLS.out
            rw [setT_parts] at h2
            simp only [List.length_append] at h2
            omega
          have HF : Hid (str (prI t (i : Int)) = sj ++ (⟨#[93]⟩ : ByteArray)) := Lib.hid (by
            rw [HPS.out, setT_parts, ← hsj]
            show _ = str (preT x.nt ++ x.rs.flatMap rngT ++ x.ts.flatMap txtT) ++ str [93]
            rw [str_appT])
          have z1 : ¬ 9223372036854775807 < sj.size + 1 := by omega
          rw [HT.out, hsj]
          clear hsj hjz
          go_wp2
          go_ret
          exact ⟨by rw [HF.out]; rfl, HE.out⟩
end Go.Proofs.YtcpjcepeiplfgaaDoor.C
