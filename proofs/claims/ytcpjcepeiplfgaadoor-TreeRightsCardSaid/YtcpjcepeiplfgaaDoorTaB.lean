/-
  The document's own Lay: a node behind others, in new memory; and Several. No condition but what each names.
-/
import Derived.Test.YtcpjcepeiplfgaaDoorTaA
namespace Go.Proofs.YtcpjcepeiplfgaaDoor.C
open Go.RowKit

section
variable {P : Program} {w : World}
/-- append of a slice of structs that reads as rows, nil let in, to a row of one's own -/
theorem run_append_sip (base : Nat) (t ty : TypeId) (e : TypeId) (i : TypeInfo) (z : Value) (size bytes : Nat) (ht : P.underlying t = some (.slice e)) (hi : P.info? e = some i) (hz : i.zero = some z)
    (hsize : i.size = size) (hby : i.bytes = bytes) (hzs : z.cells.size = size) (hsz : 0 < size)
    (v : Value) (n : Nat) (xs : List Value) (hown : w.ownsRow base e size v n xs) (X : Nat → Prop)
    (A : Option Addr) (m c : Nat) (rs : List (List Value)) (hr : SIp size w X A m rs) (h1 : ∀ u ∈ rs.flatten, u.oneCell' = true)
    (h63 : n + m ≤ maxLen) (hbytes : (n + m) * bytes ≤ 140737488355328) (hbase : base ≤ w.heap.size) :
    ∃ v' w', (Builtin.append_ #[t, t] ty #[v, .slice A m c]).run P w = .ok v' w' ∧ w'.ownsRow base e size v' (n + m) (xs ++ rs.flatten) ∧ w.grownBy w' v.ownBlock ∧ (v'.ownBlock = v.ownBlock ∨ v'.ownBlock = some w.heap.size) := by
  rcases A with _ | ad
  · have hm : m = 0 := by
      rcases Nat.eq_zero_or_pos m with h0 | h0
      · exact h0
      · obtain ⟨ad, h, _⟩ := hr.2.2 h0
        cases h
    subst hm
    have hn : rs = [] := List.eq_nil_of_length_eq_zero hr.1
    subst hn
    exact ⟨v, w, run_append_of_nil w base t ty e i size ht hi v n xs hown c, by simpa using hown, World.grownBy.refl w _, .inl rfl⟩
  · have hcells : ∀ j u, rs.flatten[j]? = some u → w.cell? (ad.add j) = some u := by
      intro j u hu
      obtain ⟨k, i, x, hx, hxi, rfl⟩ := flat_in hr.2.1 hu
      obtain ⟨ad', h, _, hc⟩ := hr.2.2 (by have := (List.getElem?_eq_some_iff.1 hx).1; have := hr.1; omega)
      injection h with h
      subst h
      exact hc k x hx i u hxi
    have hl : rs.flatten.length = m * size := by
      rw [List.length_flatten, List.map_congr_left (g := fun _ => size) hr.2.1, List.map_const', List.sum_replicate_nat, hr.1]
    obtain ⟨v', w', hrun, h2, h3, _, h5⟩ := run_append_own_at (P := P) w base t ty e i z size bytes ht hi hz hsize hby hzs hsz v n xs hown ad m c rs.flatten hl hcells h1 h63 hbytes hbase
    exact ⟨v', w', hrun, h2, h3, h5⟩
theorem wpList_append_sip {ops : Array Oper} {rest : List Oper} {o : Oper} {a : Act} {Q : Exit → Act → World → Prop} (hgd : o.guard = none) (s x : Operand) (t : TypeId)
    (ho : o.op = .call { callee := .builtin .append, args := #[s, x], argTypes := #[t, t] })
    (base : Nat) (e : TypeId) (i : TypeInfo) (z : Value) (size bytes : Nat) (ht : P.underlying t = some (.slice e)) (hi : P.info? e = some i) (hz : i.zero = some z)
    (hsize : i.size = size) (hby : i.bytes = bytes) (hzs : z.cells.size = size) (hsz : 0 < size)
    (v : Value) (n : Nat) (xs : List Value) (hs : a.eval s = v) (hown : w.ownsRow base e size v n xs) (X : Nat → Prop)
    (A : Option Addr) (m c : Nat) (rs : List (List Value)) (hx : a.eval x = .slice A m c) (hr : SIp size w X A m rs) (h1 : ∀ u ∈ rs.flatten, u.oneCell' = true)
    (h63 : n + m ≤ maxLen) (hbytes : (n + m) * bytes ≤ 140737488355328) (hbase : base ≤ w.heap.size)
    (h : ∀ v' w', w'.ownsRow base e size v' (n + m) (xs ++ rs.flatten) → w.grownBy w' v.ownBlock → (v'.ownBlock = v.ownBlock ∨ v'.ownBlock = some w.heap.size) → wpList P ops Q rest (a.put o.dst v') w') : wpList P ops Q (o :: rest) a w := by
  refine wpList_plain hgd fun K hK => ?_
  obtain ⟨v', w', hr, h2, h3, h4⟩ := run_append_sip (P := P) (w := w) base t o.type e i z size bytes ht hi hz hsize hby hzs hsz v n xs hown X A m c rs hr h1 h63 hbytes hbase
  unfold Oper.wp execOp
  simp only [ho, resolve, invoke, builtin, Sem.run_bind, Sem.run_pure, Result.andThen_ok, List.map_toArray, List.map_cons, List.map_nil, hs, hx, hr]
  exact hK _ _ (h v' w' h2 h3 h4)
end
/-- nodes of a row of one's own: outer row and what each node holds -/
def NdsO (w : World) (base : Nat) (P : Nat → Prop) (v : Value) (ns : List Nd) : Prop :=
  ∃ xs : List (List Value), xs.length = ns.length ∧ w.ownsRow base 31 9 v ns.length xs.flatten ∧ ∀ (i : Nat) (x : Nd), ns[i]? = some x → ∃ vR vT vK, xs[i]? = some (ndRow x vR vT vK) ∧ NdP w P x vR vT vK
theorem nine_new (w : World) (l : List Value) (t : TypeId) (k : Nat) (hk : w.heap.size = k) : ∀ j u, l[j]? = some u → (w.alloc (.cells l.toArray t)).cell? ((⟨k, 0, none⟩ : Addr).add j) = some u := by
  subst hk
  intro j u hu
  rw [add_plain, Nat.zero_add, World.cell?_alloc_new]
  simpa using hu
theorem snoc_nds {w : World} {P : Nat → Prop} {ns : List Nd} {xs : List (List Value)} {x : Nd} {vR vT vK : Value} (hl : xs.length = ns.length) (h : ∀ (i : Nat) (x : Nd), ns[i]? = some x → ∃ vR vT vK, xs[i]? = some (ndRow x vR vT vK) ∧ NdP w P x vR vT vK) (hx : NdP w P x vR vT vK) :
    ∀ (i : Nat) (y : Nd), (ns ++ [x])[i]? = some y → ∃ uR uT uK, (xs ++ [ndRow x vR vT vK])[i]? = some (ndRow y uR uT uK) ∧ NdP w P y uR uT uK := by
  intro i y hy
  by_cases hi : i < ns.length
  · rw [List.getElem?_append_left hi] at hy
    obtain ⟨a, b, d, h1, h2⟩ := h i y hy
    exact ⟨a, b, d, by rw [List.getElem?_append_left (by omega)]; exact h1, h2⟩
  · rw [List.getElem?_append_right (by omega)] at hy
    have h0 : i - ns.length = 0 := by
      rcases hq : i - ns.length with _ | q
      · rfl
      · rw [hq] at hy; simp at hy
    rw [h0] at hy
    obtain rfl : x = y := by simpa using hy
    exact ⟨vR, vT, vK, by rw [List.getElem?_append_right (by omega), hl, h0]; rfl, hx⟩
theorem rw_frozen {w : World} {b : Nat} {t : TypeId} {xs : Array Value} (h : Rw w b t xs) (i : Nat) : w.frozen? ⟨b, i, none⟩ = false := by simp [World.frozen?, show w.heap[b]? = _ from h]
theorem lay_end {w w6 : World} {X : Nat → Prop} {S n : Nat} {t : Tr} {xs : List (List Value)} {x : Nd} {vR vT vK v u : Value} {zs : Array Value} (hr : Rw w6 (S + 1 + 1) 34 zs) (ho : w6.ownsRow (S + 3) 31 9 v (n + 1) (xs.flatten ++ ndRow x vR vT vK)) (hb : Below S w w6) (hl : xs.length = n) (hn : ∀ (i : Nat) (x : Nd), t.ns[i]? = some x → ∃ vR vT vK, xs[i]? = some (ndRow x vR vT vK) ∧ NdP w X x vR vT vK) (hx : NdP w X x vR vT vK) (hX : ∀ b, X b → b < w.heap.size) (hS : w.heap.size = S) (hnn : n = t.ns.length) (hz : zs.size = 2) :
    Rw ((w6.setCell ⟨S + 1 + 1, 0, none⟩ v).setCell ⟨S + 1 + 1, 1, none⟩ u) (S + 1 + 1) 34 #[v, u] ∧ Below S w ((w6.setCell ⟨S + 1 + 1, 0, none⟩ v).setCell ⟨S + 1 + 1, 1, none⟩ u) ∧ NdsO ((w6.setCell ⟨S + 1 + 1, 0, none⟩ v).setCell ⟨S + 1 + 1, 1, none⟩ u) (S + 3) X v (layT t x).ns := by
  obtain ⟨a, b, rfl⟩ : ∃ a b, zs = #[a, b] := by
    rcases zs with ⟨_ | ⟨a, _ | ⟨b, _ | ⟨d, l⟩⟩⟩⟩ <;> simp at hz
    exact ⟨a, b, rfl⟩
  have hr1 := set_row (i := 1) (l := [_, _]) (set_row (i := 0) (l := [a, b]) hr v) u
  have hf : Fr w6 ((w6.setCell ⟨S + 1 + 1, 0, none⟩ v).setCell ⟨S + 1 + 1, 1, none⟩ u) (· = S + 1 + 1) := ((Fr.of_below (X := (· = S + 1 + 1)) (Below.refl _ w6)).set ⟨S + 1 + 1, 0, none⟩ v (fun _ => rfl)).set ⟨S + 1 + 1, 1, none⟩ u (fun _ => rfl)
  have hB : Below S w ((w6.setCell ⟨S + 1 + 1, 0, none⟩ v).setCell ⟨S + 1 + 1, 1, none⟩ u) := (hb.setCell (p := ⟨S + 1 + 1, 0, none⟩) (by show S ≤ S + 1 + 1; omega) v).setCell (p := ⟨S + 1 + 1, 1, none⟩) (by show S ≤ S + 1 + 1; omega) u
  have hc := below_cells (P := X) hB (fun b hb => by rw [← hS]; exact hX b hb)
  refine ⟨hr1, hB, xs ++ [ndRow x vR vT vK], by simp [layT, hl, hnn], ?_, ?_⟩
  · have := ownsRow_fr ho hf (fun g hg e => by have := (ho.lt g hg).1; omega)
    rw [show (layT t x).ns.length = n + 1 from by simp [layT, hnn], List.flatten_append]
    simpa using this
  · exact snoc_nds (by rw [hl, hnn]) (fun i y hy => by
      obtain ⟨a, b, d, h1, h2⟩ := hn i y hy
      exact ⟨a, b, d, h1, h2.keep hc⟩) (hx.keep hc)
set_option maxRecDepth 100000 in
set_option maxHeartbeats 4000000 in
theorem lay_any (w : World) (X : Nat → Prop) (A : Option Addr) (c : Nat) (t : Tr) (xs : List (List Value)) (x : Nd) (vR vT vK : Value) (hN : NdsP w X A t.ns xs) (hx : NdP w X x vR vT vK) (hX : ∀ b, X b → b < w.heap.size) (hl : t.ns.length ≤ 1000) (hg : 0 ≤ t.g ∧ t.g ≤ 1000) :
    Calls Tryd.prog 25 #[.agg #[.slice A t.ns.length c, .int .i64 t.g], ndVal x vR vT vK] w fun e w' => Below w.heap.size w w' ∧ ∃ A' c', e = .returned (.tuple #[.agg #[.slice A' (t.ns.length + 1) c', .int .i64 (layT t x).g], .int .i64 t.ns.length]) ∧ NdsO w' (w.heap.size + 3) X (.slice A' (t.ns.length + 1) c') (layT t x).ns := by
  unfold ndVal
  obtain ⟨⟨AR, cR, rfl, -⟩, ⟨AT, cT, us, rfl, -⟩, ⟨AK, cK, rfl, -⟩⟩ := id hx
  obtain ⟨i0, hi, hz0, hz1, hz2⟩ := info_parts infoNode
  obtain ⟨n, hn⟩ : ∃ n, n = t.ns.length := ⟨_, rfl⟩
  obtain ⟨g, hgg⟩ : ∃ g, g = t.g := ⟨_, rfl⟩
  have hb3 : Below w.heap.size w (((w.alloc (.cells #[.slice A t.ns.length c, .int .i64 t.g] 34)).alloc (.cells #[.int .u8 x.k, .int .i32 x.c, .bool x.nt, .slice AR x.rs.length cR, .slice AT x.ts.length cT, .int .i64 x.n, .int .i64 x.mn, .int .i64 x.mx, .slice AK x.ks.length cK] 31)).alloc (.cells #[.slice none 0 0, .int .i64 0] 34)) := (((Below.refl _ _).alloc (Nat.le_refl _) _).alloc (by simp) _).alloc (by simp; omega) _
  have hr3 : SIp 9 (((w.alloc (.cells #[.slice A t.ns.length c, .int .i64 t.g] 34)).alloc (.cells #[.int .u8 x.k, .int .i32 x.c, .bool x.nt, .slice AR x.rs.length cR, .slice AT x.ts.length cT, .int .i64 x.n, .int .i64 x.mn, .int .i64 x.mx, .slice AK x.ks.length cK] 31)).alloc (.cells #[.slice none 0 0, .int .i64 0] 34)) X A n xs := by rw [hn]; exact hN.1.keep (below_cells hb3 hX)
  have h13 := nds_one hN
  have x3 : IntKind.i64.wrap (t.g + 1) = t.g + 1 := by rw [IntKind.wrap_i64]; omega
  rw [← hn, ← hgg]
  rw [← hn] at hl
  rw [← hgg] at hg x3
  rw [← hn, ← hgg] at hr3 hb3
  have HN := Lib.hid hN
  have HX := Lib.hid hx
  have HB3 := Lib.hid hb3
  have HNN : Hid (n = t.ns.length ∧ g = t.g) := Lib.hid ⟨hn, hgg⟩
  clear hN hx hb3 hn hgg
  have hT3 := heap_alloc_new w (.cells #[.slice A n c, .int .i64 g] 34)
  obtain ⟨W1, hW1⟩ : ∃ W1, W1 = w.alloc (.cells #[.slice A n c, .int .i64 g] 34) := ⟨_, rfl⟩
  obtain ⟨W2, hW2⟩ : ∃ W2, W2 = W1.alloc (.cells #[.int .u8 x.k, .int .i32 x.c, .bool x.nt, .slice AR x.rs.length cR, .slice AT x.ts.length cT, .int .i64 x.n, .int .i64 x.mn, .int .i64 x.mx, .slice AK x.ks.length cK] 31) := ⟨_, rfl⟩
  obtain ⟨W3, hW3⟩ : ∃ W3, W3 = W2.alloc (.cells #[.slice none 0 0, .int .i64 0] 34) := ⟨_, rfl⟩
  have s1 : W1.heap.size = w.heap.size + 1 := by rw [hW1]; simp
  have s2 : W2.heap.size = w.heap.size + 2 := by rw [hW2]; simp [s1]
  have s3 : W3.heap.size = w.heap.size + 3 := by rw [hW3]; simp [s2]
  have hB1 : Below W1.heap.size W1 W3 := by rw [hW3, hW2]; exact ((Below.refl _ _).alloc (Nat.le_refl _) _).alloc (by simp) _
  have hB2 : Below W2.heap.size W2 W3 := by rw [hW3]; exact (Below.refl _ _).alloc (Nat.le_refl _) _
  have hTr : Rw W3 w.heap.size 34 #[.slice A n c, .int .i64 g] := by
    have h : Rw W1 w.heap.size 34 #[.slice A n c, .int .i64 g] := by rw [hW1]; exact heap_alloc_new w _
    exact h.on hB1 h.lt
  have hNr : Rw W3 (w.heap.size + 1) 31 #[.int .u8 x.k, .int .i32 x.c, .bool x.nt, .slice AR x.rs.length cR, .slice AT x.ts.length cT, .int .i64 x.n, .int .i64 x.mn, .int .i64 x.mx, .slice AK x.ks.length cK] := by
    have h : Rw W2 (w.heap.size + 1) 31 #[.int .u8 x.k, .int .i32 x.c, .bool x.nt, .slice AR x.rs.length cR, .slice AT x.ts.length cT, .int .i64 x.n, .int .i64 x.mn, .int .i64 x.mx, .slice AK x.ks.length cK] := by rw [hW2, ← s1]; exact heap_alloc_new W1 _
    exact h.on hB2 h.lt
  have hRr : Rw W3 (w.heap.size + 1 + 1) 34 #[.slice none 0 0, .int .i64 0] := by rw [hW3, show w.heap.size + 1 + 1 = W2.heap.size from s2.symm]; exact heap_alloc_new W2 _
  have HTR := Lib.hid hTr
  have HNR := Lib.hid hNr
  have HRR := Lib.hid hRr
  have HS3 := Lib.hid s3
  have HBW3 : Hid (Below w.heap.size w W3) := Lib.hid (by rw [hW3, hW2, hW1]; exact HB3.out)
  rw [← hW1, ← hW2, ← hW3] at hr3
  clear hTr hNr hRr hB1 hB2 s1 s2 HB3 hT3
  obtain ⟨S, hS⟩ : ∃ S, w.heap.size = S := ⟨_, rfl⟩
  rw [hS] at HTR HNR HRR HS3 HBW3 ⊢
  rw [hW3, hW2, hW1] at hr3
  have HSS := Lib.hid hS
  have HW : Hid (W3 = ((w.alloc (.cells #[.slice A n c, .int .i64 g] 34)).alloc (.cells #[.int .u8 x.k, .int .i32 x.c, .bool x.nt, .slice AR x.rs.length cR, .slice AT x.ts.length cT, .int .i64 x.n, .int .i64 x.mn, .int .i64 x.mx, .slice AK x.ks.length cK] 31)).alloc (.cells #[.slice none 0 0, .int .i64 0] 34)) := Lib.hid (by rw [hW3, hW2, hW1])
  clear hW1 hW2 hW3 s3
  go_enter Tryd.func25, Tryd.ntmps25
  go_wp2_with (first | (at_builtin; (refine wpList_append_sip rfl _ _ 32 rfl (S + 3) 31 i0 (.agg #[.int .u8 0, .int .i32 0, .bool false, .slice none 0 0, .slice none 0 0, .int .i64 0, .int .i64 0, .int .i64 0, .slice none 0 0]) 9 112 Tryd.underlying32 hi hz0 hz1 hz2 rfl (by decide) (.slice none 0 0) 0 [] rfl (World.ownsRow_nil _ _ _ _) X A n c xs rfl hr3 h13 (by unfold maxLen; omega) (by omega) (by simp; omega) ?_); intro v4 w4 hown4 hgr4 hat4; rw [← HW.out] at hgr4; rw [Nat.zero_add, List.nil_append] at hown4; (obtain ⟨A4, c4, rfl⟩ := row_form hown4); (have hb4 : Below (S + 3) W3 w4 := (Below.refl _ _).grown hgr4 (by have := HS3.out; omega) (by intro b hb; cases hb)); (have HTR4 := Lib.hid (HTR.out.on hb4 (by omega))); (have HNR4 := Lib.hid (HNR.out.on hb4 (by omega))); (have HRR4 := Lib.hid (HRR.out.on hb4 (by omega))); (have HO4 := Lib.hid hown4); (have HB4 := Lib.hid (HBW3.out.trans (hb4.mono (by omega)))); (have HSZ4 : Hid (S + 3 ≤ w4.heap.size) := Lib.hid (by have := HS3.out; have := hb4.size; omega)); (have p0 := HNR4.out.cell (i := 0) rfl); (have p1 := HNR4.out.cell (i := 1) rfl); (have p2 := HNR4.out.cell (i := 2) rfl); (have p3 := HNR4.out.cell (i := 3) rfl); (have p4 := HNR4.out.cell (i := 4) rfl); (have p5 := HNR4.out.cell (i := 5) rfl); (have p6 := HNR4.out.cell (i := 6) rfl); (have p7 := HNR4.out.cell (i := 7) rfl); (have p8 := HNR4.out.cell (i := 8) rfl); clear hown4 hgr4 hat4 hb4) | (at_builtin; (refine wpList_append_lies _ rfl _ _ 32 rfl (S + 3) 31 i0 (.agg #[.int .u8 0, .int .i32 0, .bool false, .slice none 0 0, .slice none 0 0, .int .i64 0, .int .i64 0, .int .i64 0, .slice none 0 0]) 9 112 Tryd.underlying32 hi hz0 hz1 hz2 rfl (by decide) (.slice A4 n c4) n xs.flatten rfl (HO4.out.alloc _) ⟨w4.heap.size, 0, none⟩ 1 1 [.int .u8 x.k, .int .i32 x.c, .bool x.nt, .slice AR x.rs.length cR, .slice AT x.ts.length cT, .int .i64 x.n, .int .i64 x.mn, .int .i64 x.mx, .slice AK x.ks.length cK] rfl rfl (nine_new _ _ _ _ rfl) (ndRow_one x HX.out) (by omega) (by unfold maxLen; omega) (by omega) (by simp; have := HSZ4.out; omega) (w4.heap.size + 1) (by simp) ?_); intro g6 cap6 w6 hown6 hgr6 hat6 hlt6; (have hb6 : Below (S + 3) w4 w6 := (((Below.refl (S + 3) w4).alloc HSZ4.out _).grown hgr6 (by simp; have := HSZ4.out; omega) (fun b hb => (HO4.out.lt b hb).1))); (have HRR6 := Lib.hid (HRR4.out.on hb6 (by omega))); (have d1 := (HTR4.out.on hb6 (by omega)).cell (i := 1) rfl); (have k0 := (HNR4.out.on hb6 (by omega)).cell (i := 0) rfl); (have y0 := HRR6.out.cell (i := 0) rfl); (have y1 := HRR6.out.cell (i := 1) rfl); (have f0 : w6.frozen? ⟨S + 1 + 1, 0, none⟩ = false := rw_frozen HRR6.out 0); (have f1 : w6.frozen? ⟨S + 1 + 1, 1, none⟩ = false := rw_frozen HRR6.out 1); (have HB6 := Lib.hid (HB4.out.trans (hb6.mono (by omega)))); (have HBX6 := Lib.hid hb6); (have HO6 := Lib.hid hown6); clear hown6 hgr6 hat6 hb6 p0 p1 p2 p3 p4 p5 p6 p7 p8))
  all_goals (
    have hE := fun gv : Int => lay_end (v := .slice (some ⟨g6, 0, none⟩) (n + 1) cap6) (u := .int .i64 gv) HRR6.out HO6.out HB6.out (by rw [HNN.out.1]; exact HN.out.1.1) (by exact HN.out.2) HX.out hX HSS.out HNN.out.1 rfl
    by_cases hk : x.k = 7)
  all_goals first | (exfalso; omega) | (exfalso; simp [hk] at *; done) | skip
  · obtain ⟨h1, h2, h3⟩ := hE (g + 1)
    have q0 := h1.cell (i := 0) rfl
    have q1 := h1.cell (i := 1) rfl
    refine bodyPost_ret (v := .tuple #[.agg #[.slice (some ⟨g6, 0, none⟩) (n + 1) cap6, .int .i64 (g + 1)], .int .i64 n]) (by simp [results, Tryd.results25, go_sem, q0, q1]) rfl ⟨h2, _, _, ?_, h3⟩
    rw [show (layT t x).g = g + 1 from by unfold layT; rw [if_pos hk, HNN.out.2]]
  · obtain ⟨h1, h2, h3⟩ := hE g
    have q0 := h1.cell (i := 0) rfl
    have q1 := h1.cell (i := 1) rfl
    refine bodyPost_ret (v := .tuple #[.agg #[.slice (some ⟨g6, 0, none⟩) (n + 1) cap6, .int .i64 g], .int .i64 n]) (by simp [results, Tryd.results25, go_sem, q0, q1]) rfl ⟨h2, _, _, ?_, h3⟩
    rw [show (layT t x).g = g from by unfold layT; rw [if_neg hk, HNN.out.2]]
end Go.Proofs.YtcpjcepeiplfgaaDoor.C
