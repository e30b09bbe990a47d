/-
  The builder's Leaf, Group, Times, Row, Either, New. Condition: at most 1000 nodes, none with texts.
-/
import Derived.Test.YtcpjcepeiplfgaaDoorTcB
namespace Go.Proofs.YtcpjcepeiplfgaaDoor.C
open Go.RowKit

theorem BuTold.lift {w w1 w' : World} {Bb : Nat} {v : Value} {t : Tr} {x : Nd} {e : Ending} (hb : Below w.heap.size w w1) (h : BuTold w1 Bb v t x e w') : BuTold w Bb v t x e w' := by
  obtain ⟨h1, v', h2, h3, h4⟩ := h
  refine ⟨h1, v', h2, (Fr.of_below (X := fun b => b = Bb ∨ v.ownBlock = some b) hb).trans h3, h4.imp id ?_⟩
  rintro ⟨g, h5, h6⟩
  exact ⟨g, h5, Nat.le_trans hb.size h6⟩
theorem int_new (w : World) (z : Int) : RIp .i64 (w.alloc (.cells #[.int .i64 z] 3)) (· = w.heap.size) (some ⟨w.heap.size, 0, none⟩) 1 [z] := by
  refine ⟨rfl, fun _ => ⟨_, rfl, rfl, fun j u hj => ?_⟩⟩
  rcases j with _ | j
  · obtain rfl : z = u := by simpa using hj
    rw [add_plain, World.cell?_alloc_new]
    rfl
  · simp at hj
set_option maxRecDepth 100000 in
set_option maxHeartbeats 2000000 in
theorem bgroup_any (w : World) (Bb : Nat) (v : Value) (t : Tr) (g kid : Int) (h : BuSt w Bb v t) (hl : t.ns.length ≤ 1000) (hg : 0 ≤ t.g ∧ t.g ≤ 1000) :
    Calls Tryd.prog 14 #[.pointer (some ⟨Bb, 0, none⟩), .int .i64 g, .int .i64 kid] w (BuTold w Bb v t { nd 7 with n := g, ks := [kid] }) := by
  obtain ⟨W, hW⟩ : ∃ W, W = w.alloc (.cells #[.int .i64 kid] 3) := ⟨_, rfl⟩
  have hb : Below w.heap.size w W := by rw [hW]; exact (Below.refl _ _).alloc (Nat.le_refl _) _
  have hri : RIp .i64 W (· = w.heap.size) (some ⟨w.heap.size, 0, none⟩) 1 [kid] := by rw [hW]; exact int_new w kid
  have hx : NdP W (· = w.heap.size) { nd 7 with n := g, ks := [kid] } (.slice none 0 0) (.slice none 0 0) (.slice (some ⟨w.heap.size, 0, none⟩) 1 1) := nd_kids 7 hri (by simp [maxLen]) g 0 0
  have hc := blay_any W _ Bb v t { nd 7 with n := g, ks := [kid] } _ _ _ (h.next hb) hx (by rintro b rfl; exact ⟨by rw [hW]; simp, by have := h.1.lt; omega⟩) rfl (by simp [nd]) (by simp) hl hg
  unfold ndVal at hc
  have HB := Lib.hid hb
  clear h hl hg hri hx hb
  go_enter Tryd.func14, Tryd.ntmps14
  go_wp2_with fail
  rw [← hW]
  refine hc.mono ?_
  rintro e w2 h2
  have h3 := h2.1
  subst h3
  have HE := Lib.hid (h2.lift HB.out)
  clear hc h2
  go_wp2
  go_ret
  exact HE.out
set_option maxRecDepth 100000 in
set_option maxHeartbeats 2000000 in
theorem btimes_any (w : World) (Bb : Nat) (v : Value) (t : Tr) (kid a b : Int) (h : BuSt w Bb v t) (hl : t.ns.length ≤ 1000) (hg : 0 ≤ t.g ∧ t.g ≤ 1000) :
    Calls Tryd.prog 17 #[.pointer (some ⟨Bb, 0, none⟩), .int .i64 kid, .int .i64 a, .int .i64 b] w (BuTold w Bb v t { nd 10 with mn := a, mx := b, ks := [kid] }) := by
  obtain ⟨W, hW⟩ : ∃ W, W = w.alloc (.cells #[.int .i64 kid] 3) := ⟨_, rfl⟩
  have hb : Below w.heap.size w W := by rw [hW]; exact (Below.refl _ _).alloc (Nat.le_refl _) _
  have hri : RIp .i64 W (· = w.heap.size) (some ⟨w.heap.size, 0, none⟩) 1 [kid] := by rw [hW]; exact int_new w kid
  have hx : NdP W (· = w.heap.size) { nd 10 with mn := a, mx := b, ks := [kid] } (.slice none 0 0) (.slice none 0 0) (.slice (some ⟨w.heap.size, 0, none⟩) 1 1) := nd_kids 10 hri (by simp [maxLen]) 0 a b
  have hc := blay_any W _ Bb v t { nd 10 with mn := a, mx := b, ks := [kid] } _ _ _ (h.next hb) hx (by rintro b rfl; exact ⟨by rw [hW]; simp, by have := h.1.lt; omega⟩) rfl (by simp [nd]) (by simp) hl hg
  unfold ndVal at hc
  have HB := Lib.hid hb
  clear h hl hg hri hx hb
  go_enter Tryd.func17, Tryd.ntmps17
  go_wp2_with fail
  rw [← hW]
  refine hc.mono ?_
  rintro e w2 h2
  have h3 := h2.1
  subst h3
  have HE := Lib.hid (h2.lift HB.out)
  clear hc h2
  go_wp2
  go_ret
  exact HE.out
set_option maxRecDepth 100000 in
set_option maxHeartbeats 4000000 in
theorem bleaf_any (w : World) (P : Nat → Prop) (Bb : Nat) (v : Value) (t : Tr) (x : Nd) (vR vT vK : Value) (h : BuSt w Bb v t) (hx : NdP w P x vR vT vK) (hP : ∀ b, P b → b < w.heap.size ∧ b ≠ Bb) (ht : x.ts = []) (hr : x.rs.length ≤ 1073741824) (hk : x.ks.length ≤ 1073741824) (hl : t.ns.length ≤ 1000) (hg : 0 ≤ t.g ∧ t.g ≤ 1000) :
    Calls Tryd.prog 18 #[.pointer (some ⟨Bb, 0, none⟩), ndVal x vR vT vK] w (BuTold w Bb v t x) := by
  obtain ⟨S, hS⟩ : ∃ S, w.heap.size = S := ⟨_, rfl⟩
  obtain ⟨W, hW⟩ : ∃ W, W = w.alloc (.cells #[.int .u8 x.k, .int .i32 x.c, .bool x.nt, vR, vT, .int .i64 x.n, .int .i64 x.mn, .int .i64 x.mx, vK] 31) := ⟨_, rfl⟩
  have hb : Below w.heap.size w W := by rw [hW]; exact (Below.refl _ _).alloc (Nat.le_refl _) _
  have hro : Rw W S 31 (ndRow x vR vT vK).toArray := by rw [hW, ← hS]; exact heap_alloc_new w _
  have hbu : BuSt W Bb v t := h.next hb
  have hc := blay_any W.drew P Bb v t x vR vT vK hbu (hx.keep (below_cells (below_drew hb) (fun b hp => (hP b hp).1))) (fun b hp => ⟨Nat.lt_of_lt_of_le (hP b hp).1 hb.size, (hP b hp).2⟩) ht hr hk hl hg
  have hlt : ∀ b, v.ownBlock = some b → b < w.heap.size := fun b hb => by
    obtain ⟨ys, _, hy, _⟩ := h.2
    exact (hy.lt b hb).2
  have HLT := Lib.hid hlt
  have HBS : Hid (Bb < S) := Lib.hid (by have := h.1.lt; omega)
  have HB := Lib.hid hb
  have HRO := Lib.hid hro
  have HSS := Lib.hid hS
  obtain ⟨⟨AR, cR, rfl, -⟩, ⟨AT, cT, us, rfl, -⟩, ⟨AK, cK, rfl, -⟩⟩ := hx
  unfold ndVal at hc ⊢
  have p0 : W.cell? ⟨S, 0, none⟩ = some (.int .u8 x.k) := hro.cell (i := 0) rfl
  have p1 : W.cell? ⟨S, 1, none⟩ = some (.int .i32 x.c) := hro.cell (i := 1) rfl
  have p2 : W.cell? ⟨S, 2, none⟩ = some (.bool x.nt) := hro.cell (i := 2) rfl
  have p3 : W.cell? ⟨S, 3, none⟩ = some (.slice AR x.rs.length cR) := hro.cell (i := 3) rfl
  have p4 : W.cell? ⟨S, 4, none⟩ = some (.slice AT x.ts.length cT) := hro.cell (i := 4) rfl
  have p5 : W.cell? ⟨S, 5, none⟩ = some (.int .i64 x.n) := hro.cell (i := 5) rfl
  have p6 : W.cell? ⟨S, 6, none⟩ = some (.int .i64 x.mn) := hro.cell (i := 6) rfl
  have p7 : W.cell? ⟨S, 7, none⟩ = some (.int .i64 x.mx) := hro.cell (i := 7) rfl
  have p8 : W.cell? ⟨S, 8, none⟩ = some (.slice AK x.ks.length cK) := hro.cell (i := 8) rfl
  have hS1 : (fun W' : World => W'.cell? ⟨S, 0, none⟩ = some (.int .u8 x.k) ∧ W'.cell? ⟨S, 1, none⟩ = some (.int .i32 x.c) ∧ W'.cell? ⟨S, 2, none⟩ = some (.bool x.nt) ∧ W'.cell? ⟨S, 3, none⟩ = some (.slice AR x.rs.length cR) ∧ W'.cell? ⟨S, 4, none⟩ = some (.slice AT x.ts.length cT) ∧ W'.cell? ⟨S, 5, none⟩ = some (.int .i64 x.n) ∧ W'.cell? ⟨S, 6, none⟩ = some (.int .i64 x.mn) ∧ W'.cell? ⟨S, 7, none⟩ = some (.int .i64 x.mx) ∧ W'.cell? ⟨S, 8, none⟩ = some (.slice AK x.ks.length cK)) W.drew := ⟨p0, p1, p2, p3, p4, p5, p6, p7, p8⟩
  clear h hP ht hr hk hl hg hb hro hbu p0 p1 p2 p3 p4 p5 p6 p7 p8 hlt
  go_enter Tryd.func18, Tryd.ntmps18
  go_upto_region 1 with fail
  rw [← hW]
  clear hW hS
  refine wp_region_held (S := fun W' : World => W'.cell? ⟨S, 0, none⟩ = some (.int .u8 x.k) ∧ W'.cell? ⟨S, 1, none⟩ = some (.int .i32 x.c) ∧ W'.cell? ⟨S, 2, none⟩ = some (.bool x.nt) ∧ W'.cell? ⟨S, 3, none⟩ = some (.slice AR x.rs.length cR) ∧ W'.cell? ⟨S, 4, none⟩ = some (.slice AT x.ts.length cT) ∧ W'.cell? ⟨S, 5, none⟩ = some (.int .i64 x.n) ∧ W'.cell? ⟨S, 6, none⟩ = some (.int .i64 x.mn) ∧ W'.cell? ⟨S, 7, none⟩ = some (.int .i64 x.mx) ∧ W'.cell? ⟨S, 8, none⟩ = some (.slice AK x.ks.length cK)) (by kernel_rfl) ?_
  change wpAnyH _ _ _ _ _ _ _ _ W.drew
  iterate 4 (refine wpH rfl rfl ?_; try simp only [Act.put, g1, g2, g3, g4, g5, g6])
  refine wpAnyH_one (i := 4) (by kernel_rfl) rfl (fun K hK => ?_)
  simp only [g4, g5, g6]
  go_simp
  go_at_call 29
  with_reducible refine hc.mono ?_
  rintro e w2 h2
  have h3 := h2.1
  subst h3
  have hfr : Fr W w2 (fun b => b = Bb ∨ v.ownBlock = some b) := by obtain ⟨-, v', -, hf, -⟩ := h2; exact ⟨hf.os, hf.tape, hf.output, hf.size, hf.block⟩
  have hro2 : Rw w2 S 31 (ndRow x (.slice AR x.rs.length cR) (.slice AT x.ts.length cT) (.slice AK x.ks.length cK)).toArray := (hfr.block S HRO.out.lt (fun e => by rcases e with e | e; exact (by have := HBS.out; omega); exact (by have := HLT.out S e; have := HSS.out; omega))).trans HRO.out
  have hS2 : (fun W' : World => W'.cell? ⟨S, 0, none⟩ = some (.int .u8 x.k) ∧ W'.cell? ⟨S, 1, none⟩ = some (.int .i32 x.c) ∧ W'.cell? ⟨S, 2, none⟩ = some (.bool x.nt) ∧ W'.cell? ⟨S, 3, none⟩ = some (.slice AR x.rs.length cR) ∧ W'.cell? ⟨S, 4, none⟩ = some (.slice AT x.ts.length cT) ∧ W'.cell? ⟨S, 5, none⟩ = some (.int .i64 x.n) ∧ W'.cell? ⟨S, 6, none⟩ = some (.int .i64 x.mn) ∧ W'.cell? ⟨S, 7, none⟩ = some (.int .i64 x.mx) ∧ W'.cell? ⟨S, 8, none⟩ = some (.slice AK x.ks.length cK)) w2 := ⟨hro2.cell (i := 0) rfl, hro2.cell (i := 1) rfl, hro2.cell (i := 2) rfl, hro2.cell (i := 3) rfl, hro2.cell (i := 4) rfl, hro2.cell (i := 5) rfl, hro2.cell (i := 6) rfl, hro2.cell (i := 7) rfl, hro2.cell (i := 8) rfl⟩
  have HE := Lib.hid (BuTold.lift (w := w) (w1 := W.drew) (w' := w2) (Bb := Bb) (v := v) (t := t) (x := x) ⟨HB.out.os, HB.out.tape, HB.out.output, HB.out.size, HB.out.block⟩ h2)
  refine hK.out _ _ hS2 (fun _ => ?_)
  clear hK hc h2 hfr hro2 hS1
  try simp only [Act.put, g1, g2, g3, g4, g5, g6]
  refine wpAnyH_one (i := 5) (by kernel_rfl) rfl (fun K hK => ?_)
  simp only [g4, g5, g6]
  go_simp
  refine hK.out _ _ hS2 (fun _ => ?_)
  try simp only [Act.put, g1, g2, g3, g4, g5, g6]
  refine wpAnyH_done (by kernel_rfl) ?_ _
  clear hK hS2
  go_wp2
  go_ret
  exact HE.out
/-- Row, Either -/
def JoinTold (w : World) (Bb : Nat) (v : Value) (t : Tr) (k : Int) (ks : List Int) (e : Ending) (w' : World) : Prop := if ks.length = 1 then e = .returned (.int .i64 (ks.headD 0)) ∧ w' = w else BuTold w Bb v t (if ks.length = 0 then nd 11 else { nd k with ks := ks }) e w'
set_option maxRecDepth 100000 in
set_option maxHeartbeats 4000000 in
theorem join_any (w : World) (P : Nat → Prop) (Bb : Nat) (v : Value) (t : Tr) (k : Int) (ks : List Int) (vK : Value) (h : BuSt w Bb v t) (hx : KsP w P vK ks) (hP : ∀ b, P b → b < w.heap.size ∧ b ≠ Bb) (hk : ks.length ≤ 1073741824) (hl : t.ns.length ≤ 1000) (hg : 0 ≤ t.g ∧ t.g ≤ 1000) :
    Calls Tryd.prog 30 #[.pointer (some ⟨Bb, 0, none⟩), .int .u8 k, vK] w (JoinTold w Bb v t k ks) := by
  obtain ⟨A, c, rfl, hri, hm⟩ := id hx
  unfold JoinTold
  by_cases h1 : ks.length = 1
  · obtain ⟨z, rfl⟩ : ∃ z, ks = [z] := by
      rcases ks with _ | ⟨z, _ | ⟨y, r⟩⟩
      · simp at h1
      · exact ⟨z, rfl⟩
      · simp at h1
    obtain ⟨ad, u, rfl, -, hu, hc⟩ := hri.at_ (k := 0) (by simp)
    obtain rfl : z = u := by simpa using hu
    rw [show ad.add 0 = ad from by unfold Addr.add; rw [if_pos rfl]] at hc
    simp only [List.length_cons, List.length_nil, Nat.zero_add, if_true, List.headD_cons]
    clear h hx hP hk hl hg hri hm h1 hu
    go_enter Tryd.func30, Tryd.ntmps30
    go_wp2
    go_ret
    exact ⟨rfl, rfl⟩
  · simp only [if_neg h1]
    by_cases h0 : ks.length = 0
    · have hc := blay_any w P Bb v t (nd 11) _ _ _ h (nd_plain 11) hP rfl (by simp [nd]) (by simp [nd]) hl hg
      unfold ndVal at hc
      rw [h0]
      simp only [if_true]
      clear h hx hP hk hl hg hri hm h1 h0
      go_enter Tryd.func30, Tryd.ntmps30
      go_wp2_with fail
      refine hc.mono ?_
      rintro e w2 h2
      have h3 := h2.1
      subst h3
      have HE := Lib.hid h2
      clear hc h2
      go_wp2
      go_ret
      exact HE.out
    · simp only [if_neg h0]
      have hc := blay_any w P Bb v t { nd k with ks := ks } _ _ _ h (nd_kids (c := c) k hri hm 0 0 0) hP rfl (by simp [nd]) hk hl hg
      unfold ndVal at hc
      obtain ⟨m, hmm⟩ : ∃ m, m = ks.length := ⟨_, rfl⟩
      have b0 : ((m : Int) == 0) = false := beq_eq_false_iff_ne.2 (by omega)
      have b1 : ((m : Int) == 1) = false := beq_eq_false_iff_ne.2 (by omega)
      rw [← hmm] at hc ⊢
      have HMM := Lib.hid hmm
      clear h hx hP hk hl hg hri hm h1 h0 hmm
      go_enter Tryd.func30, Tryd.ntmps30
      go_wp2_with fail
      refine hc.mono ?_
      rintro e w2 h2
      have h3 := h2.1
      subst h3
      have HE := Lib.hid h2
      clear hc h2
      go_wp2
      go_ret
      exact HE.out
set_option maxRecDepth 100000 in
set_option maxHeartbeats 2000000 in
theorem brow_any (w : World) (P : Nat → Prop) (Bb : Nat) (v : Value) (t : Tr) (ks : List Int) (vK : Value) (h : BuSt w Bb v t) (hx : KsP w P vK ks) (hP : ∀ b, P b → b < w.heap.size ∧ b ≠ Bb) (hk : ks.length ≤ 1073741824) (hl : t.ns.length ≤ 1000) (hg : 0 ≤ t.g ∧ t.g ≤ 1000) :
    Calls Tryd.prog 15 #[.pointer (some ⟨Bb, 0, none⟩), vK] w (JoinTold w Bb v t 8 ks) := by
  have hc := join_any w P Bb v t 8 ks vK h hx hP hk hl hg
  obtain ⟨A, c, rfl, -⟩ := hx
  have hres : ∀ e w', JoinTold w Bb v t 8 ks e w' → ∃ z, e = .returned (.int .i64 z) ∧ Hid (JoinTold w Bb v t 8 ks (.returned (.int .i64 z)) w') := by
    intro e w' h
    have h' := h
    unfold JoinTold at h
    split at h
    · obtain ⟨rfl, -⟩ := h
      exact ⟨_, rfl, Lib.hid h'⟩
    · have := h.1
      subst this
      exact ⟨_, rfl, Lib.hid h'⟩
  clear h hP hk hl hg
  go_enter Tryd.func15, Tryd.ntmps15
  go_wp2_with fail
  refine hc.mono ?_
  intro e w2 h2
  obtain ⟨z, rfl, HE⟩ := hres e w2 h2
  clear hc h2 hres
  go_wp2
  go_ret
  exact HE.out
set_option maxRecDepth 100000 in
set_option maxHeartbeats 2000000 in
theorem beither_any (w : World) (P : Nat → Prop) (Bb : Nat) (v : Value) (t : Tr) (ks : List Int) (vK : Value) (h : BuSt w Bb v t) (hx : KsP w P vK ks) (hP : ∀ b, P b → b < w.heap.size ∧ b ≠ Bb) (hk : ks.length ≤ 1073741824) (hl : t.ns.length ≤ 1000) (hg : 0 ≤ t.g ∧ t.g ≤ 1000) :
    Calls Tryd.prog 16 #[.pointer (some ⟨Bb, 0, none⟩), vK] w (JoinTold w Bb v t 9 ks) := by
  have hc := join_any w P Bb v t 9 ks vK h hx hP hk hl hg
  obtain ⟨A, c, rfl, -⟩ := hx
  have hres : ∀ e w', JoinTold w Bb v t 9 ks e w' → ∃ z, e = .returned (.int .i64 z) ∧ Hid (JoinTold w Bb v t 9 ks (.returned (.int .i64 z)) w') := by
    intro e w' h
    have h' := h
    unfold JoinTold at h
    split at h
    · obtain ⟨rfl, -⟩ := h
      exact ⟨_, rfl, Lib.hid h'⟩
    · have := h.1
      subst this
      exact ⟨_, rfl, Lib.hid h'⟩
  clear h hP hk hl hg
  go_enter Tryd.func16, Tryd.ntmps16
  go_wp2_with fail
  refine hc.mono ?_
  intro e w2 h2
  obtain ⟨z, rfl, HE⟩ := hres e w2 h2
  clear hc h2 hres
  go_wp2
  go_ret
  exact HE.out
set_option maxRecDepth 100000 in
set_option maxHeartbeats 2000000 in
theorem bnew_any (w : World) : Calls Tryd.prog 13 #[] w fun e w' => e = .returned (.pointer (some ⟨w.heap.size, 0, none⟩)) ∧ BuSt w' w.heap.size (.slice none 0 0) ⟨[], 0⟩ ∧ Below w.heap.size w w' ∧ w'.heap.size = w.heap.size + 1 := by
  have HE : Hid (BuSt (w.alloc (.cells #[.slice none 0 0, .int .i64 0] 69)) w.heap.size (.slice none 0 0) ⟨[], 0⟩) := Lib.hid ⟨heap_alloc_new w _, [], rfl, World.ownsRow_nil _ _ _ _, by simp⟩
  go_enter Tryd.func13, Tryd.ntmps13
  go_wp2
  go_ret
  exact ⟨rfl, HE.out, (Below.refl _ _).alloc (Nat.le_refl _) _, by simp⟩
end Go.Proofs.YtcpjcepeiplfgaaDoor.C
