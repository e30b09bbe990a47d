/-
  The builder's Tree: all that was laid, in new memory. Condition: at most 1000 nodes, none with texts.
-/
import Derived.Test.YtcpjcepeiplfgaaDoorTcC
namespace Go.Proofs.YtcpjcepeiplfgaaDoor.C
open Go.RowKit

theorem nds_own {wx w5 w6 w7 : World} {base g cap : Nat} {v : Value} {ns : List Nd} {x : Nd} {uR uT uK : Value} {xs : List (List Value)} {P Q : Nat → Prop} (hl : xs.length = ns.length) (hxs : ∀ (i : Nat) (x : Nd), ns[i]? = some x → ∃ a b d, xs[i]? = some (ndRow x a b d) ∧ NdP wx P x a b d)
    (hb5 : Below wx.heap.size wx w5) (hn5 : NdP w5 (NewB wx w5) x uR uT uK) (hb6 : Below w5.heap.size w5 w6) (hgr : w6.grownBy w7 v.ownBlock) (hown : w7.ownsRow base 31 9 (.slice (some ⟨g, 0, none⟩) (ns.length + 1) cap) (ns.length + 1) (xs.flatten ++ ndRow x uR uT uK)) (hlt : ∀ b, v.ownBlock = some b → b < wx.heap.size)
    (hP : ∀ b, P b → b < wx.heap.size ∧ v.ownBlock ≠ some b) (hQ1 : ∀ b, P b → Q b) (hQ2 : ∀ b, NewB wx w5 b → Q b) : NdsO w7 base Q (.slice (some ⟨g, 0, none⟩) (ns.length + 1) cap) (ns ++ [x]) := by
  have hsz5 := hb5.size
  have hsz6 := hb6.size
  have f7 : Fr wx w7 (fun b => v.ownBlock = some b) := ((Fr.of_below (X := fun b => v.ownBlock = some b) hb5).trans (Fr.of_below hb6)).trans (Fr.of_grown hgr)
  refine ⟨xs ++ [ndRow x uR uT uK], by simp [hl], ?_, ?_⟩
  · rw [show (ns ++ [x]).length = ns.length + 1 from by simp, List.flatten_append]
    simpa using hown
  · refine snoc_nds hl (fun i y hy => ?_) ?_
    · obtain ⟨a, b, d, h1, h2⟩ := hxs i y hy
      exact ⟨a, b, d, h1, (h2.keep (fr_cells f7 hP)).mono fun b _ => hQ1 b⟩
    · have c1 := hn5.keep (below_cells hb6 (fun _ hb => hb.2))
      exact (c1.keep (fr_cells (P := NewB wx w5) (Fr.of_grown hgr) fun b hb => ⟨Nat.lt_of_lt_of_le hb.2 hsz6, fun e => by have := hlt b e; have := hb.1; omega⟩)).mono fun b _ => hQ2 b
/-- what stands in Tree -/
structure TrSt (w : World) (S : Nat) (ns : List Nd) (v : Value) (wr : World) : Prop where
  b : Below S w wr
  r : Rw wr S 34 #[.slice none 0 0, .int .i64 0]
  o : NdsO wr (S + 1) (fun b => S < b ∧ b < wr.heap.size ∧ v.ownBlock ≠ some b) v ns
theorem TrSt.next {w wr w2 : World} {S : Nat} {ns : List Nd} {v : Value} (h : TrSt w S ns v wr) (hb : Below wr.heap.size wr w2) : TrSt w S ns v w2 := by
  have := h.r.lt
  exact ⟨h.b.trans (hb.mono (by omega)), h.r.on hb h.r.lt, h.o.fr (X := fun _ => False) (Fr.of_below hb) (fun _ _ h => h) (fun _ hp => ⟨hp.2.1, id⟩) (fun _ hp => ⟨hp.1, Nat.lt_of_lt_of_le hp.2.1 hb.size, hp.2.2⟩)⟩
def TreeTold (w : World) (t : Tr) (e : Ending) (w' : World) : Prop := ∃ A c xs, e = .returned (.agg #[.slice A t.ns.length c, .int .i64 t.g]) ∧ NdsP w' (NewB w w') A t.ns xs ∧ Below w.heap.size w w'
set_option maxRecDepth 100000 in
set_option maxHeartbeats 8000000 in
theorem btree_any (w : World) (Bb : Nat) (v : Value) (t : Tr) (h : BuSt w Bb v t) (hok : ∀ x ∈ t.ns, x.ts = [] ∧ x.rs.length ≤ 1073741824 ∧ x.ks.length ≤ 1073741824) (hl : t.ns.length ≤ 1000) :
    Calls Tryd.prog 19 #[.pointer (some ⟨Bb, 0, none⟩)] w (TreeTold w t) := by
  obtain ⟨i0, hi, hz0, hz1, hz2⟩ := info_parts infoNode
  obtain ⟨S, hS⟩ : ∃ S, w.heap.size = S := ⟨_, rfl⟩
  obtain ⟨A, c, rfl⟩ : ∃ A c, v = .slice A t.ns.length c := by obtain ⟨xs, h1, h2, h3⟩ := h.2; exact row_form h2
  obtain ⟨xs, hN⟩ : ∃ xs, NdsP w (fun b => b < w.heap.size) A t.ns xs := h.2.reads rfl (fun b hb => by rcases hb with hb | hb; exact hb.2.1; exact hb.2)
  obtain ⟨W1, hW1⟩ : ∃ W1, W1 = w.alloc (.cells #[.slice none 0 0, .int .i64 0] 34) := ⟨_, rfl⟩
  have hb1 : Below S w W1 := by rw [hW1]; exact (Below.refl _ _).alloc (by omega) _
  have hr1 : Rw W1 S 34 #[.slice none 0 0, .int .i64 0] := by rw [hW1, ← hS]; exact heap_alloc_new w _
  have hBS : Bb < S := by have := h.1.lt; omega
  have d0 : W1.cell? ⟨Bb, 0, none⟩ = some (.slice A t.ns.length c) := (h.1.on hb1 hBS).cell (i := 0) rfl
  have HBU := Lib.hid h
  have HN := Lib.hid hN
  have HOK := Lib.hid hok
  have HSS := Lib.hid hS
  have HB1 := Lib.hid hb1
  have HR1 := Lib.hid hr1
  have HBS := Lib.hid hBS
  have hs1 : W1.heap.size = S + 1 := by rw [hW1]; simp; omega
  have HS1 := Lib.hid hs1
  obtain ⟨n, hnn⟩ : ∃ n, n = t.ns.length := ⟨_, rfl⟩
  have HNN := Lib.hid hnn
  rw [← hnn] at d0 hl
  have d0' : ∀ o, (W1.alloc o).cell? ⟨Bb, 0, none⟩ = some (.slice A n c) := fun o => Lib.cell?_alloc_some _ d0
  clear h hN hok hb1 hr1 hBS hs1 hnn
  have hmk : ∀ W : World, (Instr.makeSlice 32 (.int .i64 0) (.int .i64 (n : Int))).run Tryd.prog W = .ok (.slice (some ⟨W.heap.size, 0, none⟩) 0 n) (W.alloc (.cells (madeCells (Value.agg #[.int .u8 0, .int .i32 0, .bool false, .slice none 0 0, .slice none 0 0, .int .i64 0, .int .i64 0, .int .i64 0, .slice none 0 0]).cells (n * 9)) 31)) := fun W => by
    have := run_make (P := Tryd.prog) W 32 31 i0 _ Tryd.underlying32 hi hz0 .i64 .i64 0 n (by omega) (by omega) (by rw [hz2]; omega) (by omega)
    rw [hz1] at this
    exact this
  go_enter Tryd.func19, Tryd.ntmps19
  go_upto_region 1 with fail
  rw [← hW1]
  clear hW1
  go_wp2
  obtain ⟨W2, hW2⟩ : ∃ W2, W2 = W1.alloc (.cells (madeCells (Value.agg #[.int .u8 0, .int .i32 0, .bool false, .slice none 0 0, .slice none 0 0, .int .i64 0, .int .i64 0, .int .i64 0, .slice none 0 0]).cells (n * 9)) 31) := ⟨_, rfl⟩
  have hown2 : W2.ownsRow (S + 1) 31 9 (.slice (some ⟨W1.heap.size, 0, none⟩) 0 n) 0 [] := by rw [hW2]; exact World.ownsRow_made W1 _ n (by have := HS1.out; omega) (by unfold maxLen; omega) (size_madeCells _ _)
  have hb2 : Below W1.heap.size W1 W2 := by rw [hW2]; exact (Below.refl _ _).alloc (Nat.le_refl _) _
  have H0 : Hid (TrSt w S (t.ns.take 0) (.slice (some ⟨W1.heap.size, 0, none⟩) 0 n) W2) := Lib.hid ⟨HB1.out.trans (hb2.mono (by have := HS1.out; omega)), HR1.out.on hb2 HR1.out.lt, [], by simp, by simpa using hown2, by simp⟩
  rw [show W1.alloc (.cells (madeCells #[.int .u8 0, .int .i32 0, .bool false, .slice none 0 0, .slice none 0 0, .int .i64 0, .int .i64 0, .int .i64 0, .slice none 0 0] (n * 9)) 31) = W2 from hW2.symm]
  clear hW2 hown2 hb2 HB1 HR1 d0 d0' hmk
  go_loopw [3, 19] (fun vv iv wr => ∃ i : Nat, i ≤ n ∧ iv = .int .i64 i ∧ Hid (TrSt w S (t.ns.take i) vv wr)) (fun _ iv _ => n - (intOf iv).toNat)
  case atStart => exact ⟨0, Nat.zero_le _, rfl, H0⟩
  case round =>
    clear H0
    obtain ⟨i, hin, rfl, HR⟩ := hrel
    by_cases hlt : i < n
    · obtain ⟨x, hx⟩ : ∃ x, t.ns[i]? = some x := ⟨_, List.getElem?_eq_getElem (by have := HNN.out; omega)⟩
      have hnds := HN.out.keep (below_cells HR.out.b (fun b hb => by rw [← HSS.out]; exact hb))
      obtain ⟨ad, vR, vT, vK, rfl, hPa, h9, hnd⟩ := hnds.at_ hx
      obtain ⟨⟨AR, cR, rfl, -⟩, ⟨AT, cT, us, rfl, -⟩, ⟨AK, cK, rfl, -⟩⟩ := id hnd
      obtain ⟨d0, d1, d2, d3, d4, d5, d6, d7, d8⟩ := h9
      obtain ⟨w1, hw1⟩ : ∃ w1, w1 = wr.alloc (.cells #[.int .u8 x.k, .int .i32 x.c, .bool x.nt, .slice AR x.rs.length cR, .slice AT x.ts.length cT, .int .i64 x.n, .int .i64 x.mn, .int .i64 x.mx, .slice AK x.ks.length cK] 31) := ⟨_, rfl⟩
      have hb1 : Below wr.heap.size wr w1 := by rw [hw1]; exact (Below.refl _ _).alloc (Nat.le_refl _) _
      have hrow1 : Rw w1 wr.heap.size 31 (ndRow x (.slice AR x.rs.length cR) (.slice AT x.ts.length cT) (.slice AK x.ks.length cK)).toArray := by rw [hw1]; exact heap_alloc_new wr _
      have hwl : w.heap.size ≤ wr.heap.size := HR.out.b.size
      have hcopy := copyOf_any w1 (fun b => b < w.heap.size) x _ _ _ (hnd.keep (below_cells hb1 fun b hb => Nat.lt_of_lt_of_le hb hwl)) (fun b hb => Nat.lt_of_lt_of_le hb (Nat.le_trans hwl hb1.size)) (HOK.out x (List.mem_of_getElem? hx)).1 (HOK.out x (List.mem_of_getElem? hx)).2.1 (HOK.out x (List.mem_of_getElem? hx)).2.2
      unfold ndVal at hcopy
      have HX := Lib.hid hx
      have HB1 := Lib.hid hb1
      have HR1 := Lib.hid (HR.out.next hb1)
      have q0 : w1.cell? ⟨wr.heap.size, 0, none⟩ = some (.int .u8 x.k) := hrow1.cell (i := 0) rfl
      have q1 : w1.cell? ⟨wr.heap.size, 1, none⟩ = some (.int .i32 x.c) := hrow1.cell (i := 1) rfl
      have q2 : w1.cell? ⟨wr.heap.size, 2, none⟩ = some (.bool x.nt) := hrow1.cell (i := 2) rfl
      have q3 : w1.cell? ⟨wr.heap.size, 3, none⟩ = some (.slice AR x.rs.length cR) := hrow1.cell (i := 3) rfl
      have q4 : w1.cell? ⟨wr.heap.size, 4, none⟩ = some (.slice AT x.ts.length cT) := hrow1.cell (i := 4) rfl
      have q5 : w1.cell? ⟨wr.heap.size, 5, none⟩ = some (.int .i64 x.n) := hrow1.cell (i := 5) rfl
      have q6 : w1.cell? ⟨wr.heap.size, 6, none⟩ = some (.int .i64 x.mn) := hrow1.cell (i := 6) rfl
      have q7 : w1.cell? ⟨wr.heap.size, 7, none⟩ = some (.int .i64 x.mx) := hrow1.cell (i := 7) rfl
      have q8 : w1.cell? ⟨wr.heap.size, 8, none⟩ = some (.slice AK x.ks.length cK) := hrow1.cell (i := 8) rfl
      have HBX := Lib.hid (World.block_lt_of_cell? wr _ d0)
      clear hb1 hrow1 hnd hnds hx hPa hwl
      go_upto_region 5 with fail
      rw [← hw1]
      clear hw1 d0 d1 d2 d3 d4 d5 d6 d7 d8
      go_wp2_with fail
      refine hcopy.mono ?_
      rintro e w5 ⟨uR, uT, uK, rfl, hn5, hb5⟩
      have HN5 := Lib.hid hn5
      have HB5 := Lib.hid hb5
      clear hcopy hn5 hb5 q0 q1 q2 q3 q4 q5 q6 q7 q8
      obtain ⟨ys, hyl, hown, hys⟩ := HR1.out.o
      have HYS := Lib.hid (And.intro hyl hys)
      have htk : Hid ((t.ns.take i).length = i) := Lib.hid (by rw [List.length_take]; have := HNN.out; omega)
      rw [htk.out] at hown
      have HOWN := Lib.hid hown
      clear hyl hown hys
      go_wp2_with (at_builtin; (refine wpList_append_lies _ rfl _ _ 32 rfl (S + 1) 31 i0 (.agg #[.int .u8 0, .int .i32 0, .bool false, .slice none 0 0, .slice none 0 0, .int .i64 0, .int .i64 0, .int .i64 0, .slice none 0 0]) 9 112 Tryd.underlying32 hi hz0 hz1 hz2 rfl (by decide) u3 i ys.flatten rfl (own_next HOWN.out (HB5.out.trans (((Below.refl _ _).alloc (Nat.le_refl _) _).mono HB5.out.size))) ⟨w5.heap.size, 0, none⟩ 1 1 [.int .u8 x.k, .int .i32 x.c, .bool x.nt, uR, uT, .int .i64 x.n, .int .i64 x.mn, .int .i64 x.mx, uK] rfl rfl (nine_new _ _ _ _ rfl) (ndRow_one x HN5.out) (by omega) (by unfold maxLen; omega) (by omega) (by have := HR1.out.r.lt; have := HB5.out.size; simp; omega) (w5.heap.size + 1) (by simp) ?_); intro g7 cap7 w7 hown7 hgr7 hat7 hlt7)
      have HE : Hid (TrSt w S (t.ns.take (i + 1)) (.slice (some ⟨g7, 0, none⟩) (i + 1) cap7) w7) := Lib.hid (by
        have hb6 : Below w5.heap.size w5 (w5.alloc (.cells #[.int .u8 x.k, .int .i32 x.c, .bool x.nt, uR, uT, .int .i64 x.n, .int .i64 x.mn, .int .i64 x.mx, uK] 31)) := (Below.refl _ _).alloc (Nat.le_refl _) _
        have hlt1 : ∀ b, u3.ownBlock = some b → S + 1 ≤ b ∧ b < w1.heap.size := HOWN.out.lt
        have hfr : Fr w1 w7 (fun b => u3.ownBlock = some b) := ((Fr.of_below (X := fun b => u3.ownBlock = some b) HB5.out).trans (Fr.of_below hb6)).trans (Fr.of_grown hgr7)
        have h7 := hown7.lt g7 rfl
        have hs5 := HB5.out.size
        have hs6 := hb6.size
        have hs7 := hgr7.size
        refine ⟨HR1.out.b.trans (hfr.below (fun j _ hj => by have := hlt1 j hj; omega) (by have := HR1.out.r.lt; omega)), (hfr.block S HR1.out.r.lt (fun e => by have := hlt1 S e; omega)).trans HR1.out.r, ?_⟩
        rw [take_nd HX.out]
        have hk := htk.out
        have := nds_own (base := S + 1) (g := g7) (cap := cap7) (v := u3) (ns := t.ns.take i) (P := fun b => S < b ∧ b < w1.heap.size ∧ u3.ownBlock ≠ some b) (Q := fun b => S < b ∧ b < w7.heap.size ∧ (Value.slice (some ⟨g7, 0, none⟩) (i + 1) cap7).ownBlock ≠ some b) HYS.out.1 HYS.out.2 HB5.out HN5.out hb6 hgr7 (by rw [hk]; exact hown7) (fun b hb => (hlt1 b hb).2) (fun b hb => ⟨hb.2.1, hb.2.2⟩) (fun b hb => ⟨hb.1, by omega, fun e => ?_⟩) (fun b hb => ⟨by have := hb.1; have := HR1.out.r.lt; omega, by have := hb.2; omega, fun e => ?_⟩)
        · rw [hk] at this
          exact this
        · have e : g7 = b := by simpa [Value.ownBlock] using e
          subst e
          rcases hat7 with e | e
          · exact hb.2.2 e
          · have := hb.2.1; omega
        · have e : g7 = b := by simpa [Value.ownBlock] using e
          subst e
          obtain ⟨hb1, hb2⟩ := hb
          rcases hat7 with e | e
          · have := (hlt1 g7 e).2; omega
          · omega)
      clear hown7 hgr7 hat7 hlt7
      refine ⟨⟨i + 1, by omega, by go_num, HE⟩, ?_⟩
      simp [intOf]; omega
    · obtain rfl : i = n := by omega
      have hlb : Bb < w.heap.size := HBU.out.1.lt
      have d1 : wr.cell? ⟨Bb, 1, none⟩ = some (.int .i64 t.g) := (HBU.out.1.on HR.out.b (by rw [← HSS.out]; exact hlb)).cell (i := 1) rfl
      have htk : t.ns.take i = t.ns := by rw [HNN.out]; exact List.take_length
      have hR := HR.out
      rw [htk] at hR
      obtain ⟨A', c', rfl⟩ : ∃ A c, u3 = .slice A i c := by
        obtain ⟨ys, _, hy, _⟩ := hR.o
        rw [HNN.out]
        exact row_form hy
      have hbox := hR.r
      have z0 : wr.cell? ⟨S, 0, none⟩ = some (.slice none 0 0) := hbox.cell (i := 0) rfl
      have z1 : wr.cell? ⟨S, 1, none⟩ = some (.int .i64 0) := hbox.cell (i := 1) rfl
      have f0 := rw_frozen hbox 0
      have f1 := rw_frozen hbox 1
      have HRR := Lib.hid hR
      clear hbox hR hlb htk
      go_wp2
      have hrow := set_row (i := 1) (l := [_, _]) (set_row (i := 0) (l := [_, _]) HRR.out.r (.slice A' i c')) (.int .i64 t.g)
      obtain ⟨w9, hw9⟩ : ∃ w9, w9 = (wr.setCell ⟨S, 0, none⟩ (.slice A' i c')).setCell ⟨S, 1, none⟩ (.int .i64 t.g) := ⟨_, rfl⟩
      have hf : Fr wr w9 (· = S) := by rw [hw9]; exact ((Fr.of_below (X := (· = S)) (Below.refl _ wr)).set ⟨S, 0, none⟩ _ (fun _ => rfl)).set ⟨S, 1, none⟩ _ (fun _ => rfl)
      rw [← hw9] at hrow ⊢
      have hs9 : w9.heap.size = wr.heap.size := by rw [hw9]; simp [World.setCell]
      have q0 : w9.cell? ⟨S, 0, none⟩ = some (.slice A' i c') := Rw.cell hrow (i := 0) rfl
      have q1 : w9.cell? ⟨S, 1, none⟩ = some (.int .i64 t.g) := Rw.cell hrow (i := 1) rfl
      have ho9 := HRR.out.o.fr (Q := fun b => S < b ∧ b < w9.heap.size ∧ (Value.slice A' i c').ownBlock ≠ some b) hf (fun g hg e => by
        obtain ⟨ys, _, hy, _⟩ := HRR.out.o
        have := (hy.lt g hg).1
        omega) (fun b hb => ⟨hb.2.1, by have := hb.1; omega⟩) (fun b hb => ⟨hb.1, by rw [hs9]; exact hb.2.1, hb.2.2⟩)
      rw [HNN.out] at ho9 q0
      obtain ⟨ys, hys⟩ := ho9.reads rfl (Y := NewB w w9) (fun b hb => by rcases hb with hb | hb; exact ⟨by have := HSS.out; have := hb.1; omega, hb.2.1⟩; exact ⟨by have := HSS.out; omega, hb.2⟩)
      refine bodyPost_ret (v := .agg #[.slice A' t.ns.length c', .int .i64 t.g]) (by simp [results, Tryd.results19, go_sem, q0, q1]) rfl ⟨A', c', ys, rfl, hys, ?_⟩
      rw [HSS.out]
      exact HRR.out.b.trans (hf.below (by rintro j _ rfl; omega) (by have := HRR.out.r.lt; omega))
end Go.Proofs.YtcpjcepeiplfgaaDoor.C
