/-
  Contracts of a reader's add, endLine and lineEnd. No condition but what each names.
-/
import Derived.Test.YtnifcgiajjmogaaGreatDoorLxR
namespace Go.Proofs.YtnifcgiajjmogaaGreatDoor.C
open Go.RowKit

theorem heap_new (w : World) (o : Obj) : (w.alloc o).heap[w.heap.size]? = some o := by
  show (w.heap.push o)[w.heap.size]? = _
  simp
theorem heap_lt (w : World) (o : Obj) {j : Nat} (h : j < w.heap.size) : (w.alloc o).heap[j]? = w.heap[j]? := by
  show (w.heap.push o)[j]? = _
  rw [Array.getElem?_push, if_neg (by omega)]

/-- a block that is a token -/
def TkAt (w : World) (b : Nat) (x : Tok) : Prop := w.heap[b]? = some (.cells #[.int .u8 x.k, .string (str x.t), .int .i64 x.n, .int .i64 x.at_] 35 (0, 0))
theorem TkAt.cells {w : World} {b : Nat} {x : Tok} (h : TkAt w b x) : w.cell? ⟨b, 0, none⟩ = some (.int .u8 x.k) ∧ w.cell? ⟨b, 1, none⟩ = some (.string (str x.t)) ∧ w.cell? ⟨b, 2, none⟩ = some (.int .i64 x.n) ∧ w.cell? ⟨b, 3, none⟩ = some (.int .i64 x.at_) ∧ w.frozen? ⟨b, 1, none⟩ = false := by
  simp [World.cell?, World.frozen?, show w.heap[b]? = _ from h]
theorem TkAt.set1 {w : World} {b : Nat} {x : Tok} (h : TkAt w b x) : TkAt (w.setCell ⟨b, 1, none⟩ (.string (str x.t))) b x := by
  obtain ⟨hlt, hk⟩ := Array.getElem?_eq_some_iff.1 h
  show (w.heap.modify b _)[b]? = _
  rw [Array.getElem?_eq_getElem (by rw [Array.size_modify]; exact hlt), Array.getElem_modify_self, hk]
  rfl
theorem RD.put {w : World} {R k k' : Nat} {s : ByteArray} {ts : List Tok} {v0 v' : Value} (h0 : glN ≤ R) (hb : w.heap[R]? = some (.cells #[.string s, .int .i64 k, v0] 41 (0, 0))) (hown : w.ownsRow R 35 4 v' ts.length (tksC ts)) :
    RD ((w.setCell ⟨R, 2, none⟩ v').setCell ⟨R, 1, none⟩ (.int .i64 k')) R s k' ts := by
  have hne := row_ne hown hb (by decide)
  have h1 : (w.setCell ⟨R, 2, none⟩ v').heap[R]? = some (.cells #[.string s, .int .i64 k, v'] 41 (0, 0)) := by
    obtain ⟨hlt, hk⟩ := Array.getElem?_eq_some_iff.1 hb
    show (w.heap.modify R _)[R]? = _
    rw [Array.getElem?_eq_getElem (by rw [Array.size_modify]; exact hlt), Array.getElem_modify_self, hk]
    rfl
  have h2 : RD (w.setCell ⟨R, 2, none⟩ v') R s k ts := ⟨h0, v', h1, hown.kept (Lib.grownBy_setCell w R 2 _) (.inr hne)⟩
  exact h2.seek k'
theorem tok_one (x : Tok) : ∀ u ∈ tkC x, u.oneCell' = true := by
  intro u hu
  simp only [tkC, List.mem_cons, List.not_mem_nil, or_false] at hu
  rcases hu with rfl | rfl | rfl | rfl <;> rfl
theorem tok_new (w : World) (x : Tok) (t : TypeId) (g : Nat) (hg : w.heap.size = g) : ∀ j u, (tkC x)[j]? = some u → (w.alloc (.cells #[.int .u8 x.k, .string (str x.t), .int .i64 x.n, .int .i64 x.at_] t)).cell? ((⟨g, 0, none⟩ : Addr).add j) = some u := by
  subst hg
  intro j u hu
  rw [add_plain, Nat.zero_add, World.cell?_alloc_new]
  simpa [tkC] using hu

set_option maxRecDepth 100000 in
set_option maxHeartbeats 4000000 in
theorem add_any (w : World) (R k : Nat) (s : ByteArray) (ts : List Tok) (h : RD w R s k ts) (kd n m : Nat) (t : List UInt8) (a0 : Int) (hk : k + m ≤ 5000) (ht : t.length ≤ 4000) (hts : ts.length ≤ 5000) :
    Calls Tryz.prog 39 #[.pointer (some ⟨R, 0, none⟩), .agg #[.int .u8 kd, .string (str t), .int .i64 n, .int .i64 a0], .int .i64 m] w fun e w' => e = .returned (.tuple #[]) ∧ RD w' R s (k + m) (ts ++ [⟨kd, t, n, k⟩]) ∧ Bk R w w' := by
  obtain ⟨i0, hi, hz0, hz1, hz2⟩ := info_parts infoTok
  have H := Lib.hid h
  have hlt := h.lt
  obtain ⟨h0, v, hb, hown⟩ := h
  have hcl := fun W => clone_any (str t) W (by rw [str_size]; exact ht)
  have HO := Lib.hid hown
  obtain ⟨c0, c1, c2, f1, f2⟩ := rd_cells hb
  have c1a : ∀ o, (w.alloc o).cell? ⟨R, 1, none⟩ = some (.int .i64 k) := fun o => by rw [World.cell?_alloc_lt w o _ hlt]; exact c1
  have HB := Lib.hid hb
  clear hb hown c1 c0 c2 f1 f2
  go_enter Tryz.func39, Tryz.ntmps39
  go_wp2_with fail
  refine (hcl _).mono ?_
  rintro e w1 ⟨rfl, hb1⟩
  have hW : Below w.heap.size w (w.alloc (.cells #[.int .u8 kd, .string (str t), .int .i64 n, .int .i64 k] 35)) := (Below.refl _ _).alloc (Nat.le_refl _) _
  have hT1 : TkAt w1 w.heap.size ⟨kd, t, n, k⟩ := (hb1.block w.heap.size (by simp)).trans (heap_new w _)
  have hB1 : Below w.heap.size w w1 := hW.trans (hb1.mono (by simp))
  have hR1 := (hB1.block R hlt).trans HB.out
  have hO1 := own_keep HO.out hB1
  have hv : v.ownBlock ≠ some w.heap.size := fun e => by have := (HO.out.lt _ e).2; omega
  have hs1 := hb1.size
  have hs1' : w.heap.size < w1.heap.size := by simp at hs1; omega
  clear hb1 hW hs1
  obtain ⟨q0, q1, q2, q3, qf⟩ := hT1.cells
  simp only at q0 q1 q2 q3
  have hT2 := hT1.set1
  simp only at hT2
  have hO2 := hO1.kept (Lib.grownBy_setCell w1 w.heap.size 1 (.string (str t))) (.inr hv)
  have hR2 : (w1.setCell ⟨w.heap.size, 1, none⟩ (.string (str t))).heap[R]? = _ := (Below.heap_setCell _ _ _ _ (by show R ≠ w.heap.size; omega)).trans hR1
  have hB2 : Below R w (w1.setCell ⟨w.heap.size, 1, none⟩ (.string (str t))) := (hB1.mono (by omega)).setCell (p := ⟨w.heap.size, 1, none⟩) (by show R ≤ w.heap.size; omega) _
  have hK2 : Kt w (w1.setCell ⟨w.heap.size, 1, none⟩ (.string (str t))) := (Kt.of_below hB1).trans (Kt.setCell hT1 (.inl rfl) 1 _)
  have hs2 : (w1.setCell ⟨w.heap.size, 1, none⟩ (.string (str t))).heap.size = w1.heap.size := by simp [World.setCell]
  generalize w.heap.size = b at *
  have HT := Lib.hid hT1
  have HO1 := Lib.hid hO1
  have HR1 := Lib.hid hR1
  have HB1 := Lib.hid hB1
  clear hT1 hO1 hR1 hB1
  go_wp2
  generalize w1.setCell ⟨b, 1, none⟩ (.string (str t)) = w2 at *
  clear q0 q1 q2 q3 qf
  obtain ⟨q0, q1, q2, q3, qf⟩ := hT2.cells
  simp only at q0 q1 q2 q3
  obtain ⟨d0, d1, d2, e1, e2⟩ := rd_cells hR2
  have hlt2 : R < w2.heap.size := by omega
  have HT2 := Lib.hid hT2
  have HO2 := Lib.hid hO2
  have HR2 := Lib.hid hR2
  have HB2 := Lib.hid hB2
  have HK2 := Lib.hid hK2
  have hRv := row_ne hO2 hR2 (by decide)
  have d2a : ∀ o, (w2.alloc o).cell? ⟨R, 2, none⟩ = some v := fun o => by rw [World.cell?_alloc_lt w2 o _ hlt2]; exact d2
  have q0a : ∀ o, (w2.alloc o).cell? ⟨b, 0, none⟩ = some (.int .u8 kd) := fun o => by rw [World.cell?_alloc_lt w2 o _ (by show b < _; omega)]; exact q0
  clear hT2 hO2 hR2 hB2 hK2 qf hs2
  go_region_law ((refine step_append_lies _ rfl (.tmp 19) (.tmp 21) 28 rfl R 35 i0 (.agg #[.int .u8 0, .string ⟨#[]⟩, .int .i64 0, .int .i64 0]) 4 40 Tryz.underlying28 hi hz0 hz1 hz2 rfl (by decide) v ts.length (tksC ts) (by simp [Act.eval]) (HO2.out.alloc _) ⟨w2.heap.size, 0, none⟩ 1 1 (tkC ⟨kd, t, n, k⟩) (by simp [Act.eval]) rfl (tok_new w2 ⟨kd, t, n, k⟩ 35 _ rfl) (tok_one _) (by decide) (by unfold maxLen; omega) (by omega) (by simp; omega) _ rfl ?_); intro g cap w3 hown3 hgrow3 _ _; have hR3 := (hgrow3.block R (by simp; omega) (fun e => hRv e.symm)).trans ((heap_lt w2 _ hlt2).trans HR2.out); obtain ⟨_, g1, g2, gf1, gf2⟩ := rd_cells hR3)
  all_goals
    have HO3 := Lib.hid hown3
    have HG3 := Lib.hid hgrow3
    have HR3 := Lib.hid hR3
    clear hown3 hgrow3 hR3
    go_wp2
    go_end0
    refine ⟨rfl, ?_, ?_⟩
    · have := RD.put (k' := k + m) h0 HR3.out (ts := ts ++ [⟨kd, t, n, k⟩]) (by rw [tksC_snoc, List.length_append]; exact HO3.out)
      rw [Int.natCast_add] at this
      exact this
    · have hRR : (w3.setCell ⟨R, 2, none⟩ (.slice (some ⟨g, 0, none⟩) (ts.length + 1) cap)).heap[R]? = some (.cells #[.string s, .int .i64 k, .slice (some ⟨g, 0, none⟩) (ts.length + 1) cap] 41 (0, 0)) := by
        obtain ⟨hlt3, hk3⟩ := Array.getElem?_eq_some_iff.1 HR3.out
        show (w3.heap.modify R _)[R]? = _
        rw [Array.getElem?_eq_getElem (by rw [Array.size_modify]; exact hlt3), Array.getElem_modify_self, hk3]
        rfl
      refine ⟨below_seek (below_seek (((HB2.out.alloc (by omega) _).drew).grown HG3.out (by simp; omega) (fun j e => (HO2.out.lt j e).1)) 2 _) 1 _, ?_⟩
      refine HK2.out.trans (Kt.trans ?_ ((Kt.setCell HR3.out (.inr rfl) 2 _).trans (Kt.setCell hRR (.inr rfl) 1 _)))
      have hk3 : Kt (w2.alloc (.cells #[.int .u8 kd, .string (str t), .int .i64 n, .int .i64 k] 35)).drew w3 := Kt.grown (w := (w2.alloc (.cells #[.int .u8 kd, .string (str t), .int .i64 n, .int .i64 k] 35)).drew) (HO2.out.alloc _) HG3.out
      exact (Kt.of_below (((Below.refl _ w2).alloc (Nat.le_refl _) _).drew)).trans hk3

theorem tks_at : ∀ {ts : List Tok} {j : Nat} {x : Tok} (_ : ts[j]? = some x) (i : Nat) (_ : i < 4), (tksC ts)[j * 4 + i]? = (tkC x)[i]?
  | [], j, x, h, i, hi => by simp at h
  | y :: r, 0, x, h, i, hi => by
    simp at h
    subst h
    show (tkC y ++ tksC r)[0 * 4 + i]? = _
    rw [Nat.zero_mul, Nat.zero_add, List.getElem?_append_left (by simp [tkC]; omega)]
  | y :: r, j + 1, x, h, i, hi => by
    simp at h
    show (tkC y ++ tksC r)[(j + 1) * 4 + i]? = _
    rw [List.getElem?_append_right (by simp [tkC]; omega), show (j + 1) * 4 + i - (tkC y).length = j * 4 + i by simp [tkC]; omega]
    exact tks_at h i hi

theorem lastK_snoc (ts : List Tok) (x : Tok) : lastK (ts ++ [x]) = x.k := by simp [lastK]
theorem lastK_nil : lastK [] = 6 := rfl
theorem snoc_or {α : Type} (l : List α) : l = [] ∨ ∃ r x, l = r ++ [x] := by
  rcases List.eq_nil_or_concat l with h | ⟨r, x, h⟩
  · exact .inl h
  · exact .inr ⟨r, x, by simpa using h⟩
theorem add_off0 (g k : Nat) : (⟨g, 0, none⟩ : Addr).add k = ⟨g, k, none⟩ := by rw [add_plain, Nat.zero_add]

set_option maxRecDepth 100000 in
set_option maxHeartbeats 4000000 in
theorem endLine_any (w : World) (R k : Nat) (s : ByteArray) (ts : List Tok) (h : RD w R s k ts) (hk : k ≤ 5000) (hts : ts.length ≤ 5000) :
    Calls Tryz.prog 29 #[.pointer (some ⟨R, 0, none⟩)] w fun e w' => e = .returned (.tuple #[]) ∧ RD w' R s k (endL ts k) ∧ Bk R w w' := by
  have H := Lib.hid h
  obtain ⟨h0, v, hb, hown⟩ := h
  obtain ⟨c0, c1, c2, f1, f2⟩ := rd_cells hb
  obtain ⟨A, c, rfl, hnc, hcm⟩ := own_slice4 hown
  rcases snoc_or ts with rfl | ⟨r, x, rfl⟩
  · have hl : endL [] k = [] := rfl
    rw [hl]
    simp only [List.length_nil] at c2
    clear hb hown
    go_enter Tryz.func29, Tryz.ntmps29
    go_wp2
    go_end0
    exact ⟨rfl, H.out, bk_refl _ _⟩
  · obtain ⟨g, cap, hv, hbg, hlt⟩ := hown.form (by simp)
    injection hv with hA _ hcc
    subst hA
    have hcell := hown.cells (g := g) rfl (r.length * 4) (.int .u8 x.k) (by rw [show r.length * 4 = r.length * 4 + 0 from rfl, tks_at (x := x) (by simp) 0 (by omega)]; rfl)
    have hcell' := hcell
    rw [add_off0] at hcell'
    rw [List.length_append, List.length_cons, List.length_nil] at c2 hnc hts
    obtain ⟨j, hj⟩ : ∃ j, r.length = j := ⟨_, rfl⟩
    rw [hj] at c2 hnc hcell hcell' hts
    have j0 : (0 : Int) ≤ (j : Int) := by omega
    have j1 : (j : Int) < (j : Int) + 1 := by omega
    have j2 : (0 : Int) < (j : Int) + 1 := by omega
    by_cases h6 : x.k = 6
    · have hl : endL (r ++ [x]) k = r ++ [x] := by unfold endL; rw [lastK_snoc, if_pos h6]
      rw [hl]
      have q : ((x.k : Int) != 6) = false := by simp; omega
      clear hb hown hj h6
      go_enter Tryz.func29, Tryz.ntmps29
      go_wp2
      go_end0
      exact ⟨rfl, H.out, bk_refl _ _⟩
    · have hl : endL (r ++ [x]) k = r ++ [x] ++ [⟨6, [], 0, k⟩] := by unfold endL; rw [lastK_snoc, if_neg h6]
      rw [hl]
      have q : ((x.k : Int) != 6) = true := nat_ne h6
      have hadd := add_any w R k s (r ++ [x]) H.out 6 0 0 [] 0 (by omega) (by simp) (by simp; omega)
      clear hb hown hj h6
      go_enter Tryz.func29, Tryz.ntmps29
      go_wp2_with (go_at_call 39; refine hadd.mono ?_; rintro e w1 ⟨rfl, hr, hb1⟩)
      go_end0
      exact ⟨rfl, hr, hb1⟩

set_option maxHeartbeats 1000000 in
theorem lineEnd_yes (w : World) (R k : Nat) (s : ByteArray) (ts : List Tok) (h : RD w R s k ts) (hk : k < s.size) (hs : s.size ≤ 4000) (hts : ts.length ≤ 5000) (h1 : (s[k]'hk).toNat = 10) :
    Calls Tryz.prog 23 #[.pointer (some ⟨R, 0, none⟩)] w (Stepped w R s true (k + 1) (endL ts k)) := by
  have H := Lib.hid h
  have hend := fun n => endLine_any (w.drewN n) R k s ts (h.drewN n) (by omega) hts
  obtain ⟨_, v, hb, _⟩ := h
  obtain ⟨c0, c1, _, f1, _⟩ := rd_cells hb
  have k0 : (0 : Int) ≤ (k : Int) := by omega
  have k1 : (k : Int) < (s.size : Int) := by omega
  have q1 : (((s[k]'hk).toNat : Int) != 10) = false := by simp; omega
  clear hb h1
  go_enter Tryz.func23, Tryz.ntmps23
  go_wp2
  go_quiet (fail)
  go_wp2_with fail
  refine (hend _).mono ?_
  rintro e w1 ⟨rfl, hr, hb1⟩
  have HR := Lib.hid hr
  obtain ⟨_, v', hb', _⟩ := hr
  obtain ⟨_, d1, _, g1, _⟩ := rd_cells hb'
  clear hb'
  go_wp2
  go_ret
  exact ⟨rfl, HR.out.seek _, bk_seek ((bk_drewN _ _ _).trans hb1) HR.out 1 _⟩
end Go.Proofs.YtnifcgiajjmogaaGreatDoor.C
