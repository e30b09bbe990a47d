/-
  The contract of lines.Split: the lines of any cells (at most 2^30), in new memory; nothing that was there changes.
-/
import Derived.Test.YtlecioifjdmmmaaLnE
namespace Go.Proofs.Ytlecioifjdmmmaa.C
open Go.RowKit Go.Shelf
attribute [local go_sem] Oper.semAt_some

/-- so far these lines -/
def SpI (base S : Nat) (ls : List (List Int × Bool)) (W : World) : Prop :=
  ∃ v cs, Boxed W S 28 v ∧ W.ownsRow base 32 2 v ls.length cs ∧ LC W base cs ls
theorem SpI.own {α : Type} (base S : Nat) (f : α → List (List Int × Bool)) : Own (fun s W => SpI base S (f s) W) := by
  rintro s X Y row ⟨v, cs, hv, hr, hc⟩ hg hrow
  exact ⟨v, cs, boxed_own S 28 (fun _ : Unit => v) () X Y row hv hg hrow, own_turn hr hg hrow, hc.kept fun u n xs h => own_turn h hg hrow⟩
theorem SpI.alloc {base S : Nat} {ls : List (List Int × Bool)} {W : World} (h : SpI base S ls W) (o : Obj) : SpI base S ls (W.alloc o) := by
  obtain ⟨v, cs, hv, hr, hc⟩ := h
  exact ⟨v, cs, hv.alloc o, hr.alloc o, hc.kept fun u n xs h => h.alloc o⟩

theorem boxed_one {W : World} {S : Nat} {t t' : TypeId} {u v : Value} (h : Boxed W S t u) (k : Boxed W S t' v) : u = v := by
  have := (show W.heap[S]? = _ from h).symm.trans k
  simp at this
  exact this.1
theorem pair_new (w : World) (k : Nat) (a b : Value) (t : TypeId) (hk : w.heap.size = k) : ∀ j u, [a, b][j]? = some u → (w.alloc (.cells #[a, b] t)).cell? ((⟨k, 0, none⟩ : Addr).add j) = some u := by
  subst hk
  intro j u hu
  rw [add_plain, Nat.zero_add, World.cell?_alloc_new]
  simpa using hu
/-- behind the line's own cells: what the walk reads next -/
theorem split_mid {W w1 : World} {base S Bx k : Nat} {v v1 a0 b0 : Value} {cs : List Value} (hv : Boxed W S 28 v) (hrow : W.ownsRow base 32 2 v k cs) (hP : PairAt W Bx a0 b0) (hne : v.ownBlock ≠ some Bx) (hSB : S < Bx) (g1 : W.grownBy w1 none) :
    PairAt w1 Bx a0 b0 ∧ Boxed w1 S 28 v ∧ PairAt (w1.setCell ⟨Bx, 0, none⟩ v1) Bx v1 b0 ∧ Boxed (w1.setCell ⟨Bx, 0, none⟩ v1) S 28 v ∧ (w1.setCell ⟨Bx, 0, none⟩ v1).ownsRow base 32 2 v k cs :=
  ⟨hP.kept g1 (by simp), hv.kept g1 (by simp), (hP.kept g1 (by simp)).set v1, (hv.kept g1 (by simp)).other (by omega) _, (hrow.kept g1 (by cases h : v.ownBlock <;> simp)).kept (grownBy_setCell' w1 Bx v1) (.inr hne)⟩

/-- a line more: what the walk owes -/
theorem split_step {W w1 w2 : World} {base S Bx k n : Nat} {v v1 v' a0 b0 : Value} {cs : List Value} {ls : List (List Int × Bool)} {x : List Int × Bool} {tmp : Obj}
    (hv : Boxed W S 28 v) (hrow : W.ownsRow base 32 2 v k cs) (hlc : LC W base cs ls) (hP : PairAt W Bx a0 b0) (hne : v.ownBlock ≠ some Bx) (hSB : S < Bx) (hbS : base ≤ S)
    (h1 : w1.ownsRow base 25 1 v1 n (x.1.map (Value.int .i32))) (hn : n = x.1.length) (g1 : W.grownBy w1 none)
    (h2 : w2.ownsRow base 32 2 v' (k + 1) (cs ++ [v1, .bool x.2])) (g2 : ((w1.setCell ⟨Bx, 0, none⟩ v1).alloc tmp).grownBy w2 v.ownBlock) :
    (Boxed w2 S 28 v ∧ LC (w2.setCell ⟨S, 0, none⟩ v') base (cs ++ [v1, .bool x.2]) (ls ++ [x])) ∧ Boxed (w2.setCell ⟨S, 0, none⟩ v') S 28 v' ∧ (w2.setCell ⟨S, 0, none⟩ v').ownsRow base 32 2 v' (k + 1) (cs ++ [v1, .bool x.2]) ∧
      KeepsOthers W (w2.setCell ⟨S, 0, none⟩ v') ∧ Below base W (w2.setCell ⟨S, 0, none⟩ v') := by
  subst hn
  have hs1 := g1.size
  have hSW := hv.lt
  have hv1 : Boxed w1 S 28 v := hv.kept g1 (by simp)
  have hv2 : Boxed (w1.setCell ⟨Bx, 0, none⟩ v1) S 28 v := hv1.other (by omega) _
  have hP1 : PairAt w1 Bx a0 b0 := hP.kept g1 (by simp)
  have gB := grownBy_setCell' w1 Bx v1
  have hrow1 : w1.ownsRow base 32 2 v k cs := hrow.kept g1 (by cases h : v.ownBlock <;> simp)
  have hrow2 : (w1.setCell ⟨Bx, 0, none⟩ v1).ownsRow base 32 2 v k cs := hrow1.kept gB (.inr hne)
  obtain ⟨b1, b2, b3, b4, b5⟩ := hv2.appended (by decide) hrow2 (by have := gB.size; omega) hbS h2 g2
  have keep : ∀ u m xs, w1.ownsRow base 25 1 u m xs → (w2.setCell ⟨S, 0, none⟩ v').ownsRow base 25 1 u m xs := fun u m xs h => by
    have k1 : (w1.setCell ⟨Bx, 0, none⟩ v1).ownsRow base 25 1 u m xs := h.kept gB (.inr (row_ne h hP1 (by decide)))
    have k2 := (k1.alloc tmp).kept g2 (rows_ne (k1.alloc tmp) (hrow2.alloc tmp) (by decide))
    exact k2.kept (grownBy_setCell' w2 S v') (.inr (row_ne k2 b1 (by decide)))
  refine ⟨⟨b1, ?_⟩, b2, b3, ?_, ?_⟩
  · exact (hlc.kept fun u m xs h => keep u m xs (h.kept g1 (by cases hh : u.ownBlock <;> simp))).snoc x v1 (keep _ _ _ h1)
  · exact ((KeepsOthers.of_grownBy g1 fun j o ej _ => by cases ej).trans (KeepsOthers.setCell _ _ _)).trans b4
  · exact (((Below.refl base W).grown g1 (by omega) (fun j ej => by cases ej)).setCell (p := ⟨Bx, 0, none⟩) (by show base ≤ Bx; omega) v1).trans b5

set_option maxRecDepth 100000 in
set_option maxHeartbeats 4000000 in
theorem split_any (w : World) (B : Nat) (A : Option Addr) (m c : Nat) (zs : List Int) (hx : RI .i32 w B A m zs) (hB : B ≤ w.heap.size) (hmc : m ≤ c) (hc : c ≤ maxLen) (hm : m ≤ 1073741824) :
    Calls Try.prog 11 #[.slice A m c] w fun e w' => ∃ A' n' c', e = .returned (.slice A' n' c') ∧ n' ≤ c' ∧ c' ≤ maxLen ∧ LI w' w'.heap.size A' n' (splitL zs) ∧ Below w.heap.size w w' := by
  obtain ⟨i0, hi, hz0, hz1, hz2⟩ := info_parts infoLine
  obtain ⟨i1, hj, hy0, hy1, hy2⟩ := info_parts info33
  have hlen := hx.len
  have hsl := split_len zs
  have HX := Lib.hid hx
  obtain ⟨q, hq⟩ : ∃ q, (splitL zs).length = q := ⟨_, rfl⟩
  have hqm : q ≤ m := by omega
  have hct := count_any w B A m c zs hx hB hmc hc hm
  rw [hq] at hct
  clear hx hsl hlen hq
  refine (callsIn_wide (n := 5)).1 ?_
  refine callsIn_of_wp_marks Try.func11 rfl trivial ?_ rfl
  simp only [Try.ntmps11, List.size_toArray, List.length_cons, List.length_nil, Nat.reduceAdd, Nat.reduceSub, Array.replicate_succ, Array.replicate_zero, List.push_toArray, List.append_toArray, List.nil_append, List.cons_append]
  gi_wp2_with fail
  refine ⟨trivial, (callsIn_wide.2 hct).mono ?_⟩
  rintro e w1 ⟨rfl, hb1⟩
  have hs1 := hb1.size
  gi_wp2_with (gi_at_make; (refine wpListIn_make_own _ rfl _ _ 28 rfl w.heap.size 32 i0 (.agg #[.slice none 0 0, .bool false]) 2 Try.underlying28 hi hz0 hz1 .i64 .i64 _ q rfl rfl rfl (by rw [hz2]; omega) (by unfold maxLen; omega) (by omega) ?_); intro w2 hown hgrow; have hb2 : Below w.heap.size w w2 := hb1.trans ((Below.refl _ w1).grown hgrow hs1 (fun _ h => by cases h)))
  refine ⟨trivial, (callsIn_wide.2 (each_any _ A m c)).mono ?_⟩
  rintro e w' ⟨rfl, rfl⟩
  gi_wp2
  have hs2 := hb2.size
  have bS := (Boxed.new w2 28 (.slice (some ⟨w1.heap.size, 0, none⟩) 0 q)).alloc (.cells #[.slice A m c] 23)
  have bN := Boxed.new (w2.alloc (.cells #[.slice (some ⟨w1.heap.size, 0, none⟩) 0 q] 28)) 23 (.slice A m c)
  have hrow0 := (hown.alloc (.cells #[.slice (some ⟨w1.heap.size, 0, none⟩) 0 q] 28)).alloc (.cells #[.slice A m c] 23)
  have hB0 : Below w.heap.size w ((w2.alloc (.cells #[.slice (some ⟨w1.heap.size, 0, none⟩) 0 q] 28)).alloc (.cells #[.slice A m c] 23)) := (hb2.alloc hs2 _).alloc (by simp; omega) _
  have hsz : ((w2.alloc (.cells #[.slice (some ⟨w1.heap.size, 0, none⟩) 0 q] 28)).alloc (.cells #[.slice A m c] 23)).heap.size = w2.heap.size + 2 := by simp
  rw [World.size_alloc] at bN
  obtain ⟨W0, hW0⟩ : ∃ W0, (w2.alloc (.cells #[.slice (some ⟨w1.heap.size, 0, none⟩) 0 q] 28)).alloc (.cells #[.slice A m c] 23) = W0 := ⟨_, rfl⟩
  rw [hW0] at bS bN hB0 hsz hrow0 ⊢
  clear hW0 hown hgrow hct
  generalize w2.heap.size = S at *
  refine wpIn_rangeFunc_ownH rfl (by omega) (gf := 22) (lb := #[.pointer (some ⟨S + 1, 0, none⟩)]) rfl trivial (enters_of Try.func22 (by kernel_rfl) rfl)
    (each_stops 4 (by omega) (S + 1) w.heap.size w W0 A m c zs (HX.out.more hB) hmc hc hB0 (Nat.le_refl _) (by omega) (by omega) bN.cell) belowK_t (belowK_b (by omega)) (Below.refl _ _) (fun _ => rfl)
    (fun pre W => SpI w.heap.size S (pre.map Ln.pl) W ∧ Below w.heap.size w W)
    (fun _ _ _ => False)
    (OwnFrom.and (Own.from (SpI.own _ _ (fun pre : List (Ln w w.heap.size m) => pre.map Ln.pl)) _) (ownFrom_below (Nat.le_refl _) (by omega)))
    (fun _ _ _ _ _ hs _ _ => hs)
    ⟨⟨_, [], bS, hrow0, LC.nil _ _⟩, hB0⟩
    (fun x a' W => ∃ Bx, PairAt W Bx (.slice x.A x.n x.c) (.bool x.b) ∧ (∃ v, Boxed W S 28 v ∧ v.ownBlock ≠ some Bx) ∧ S < Bx ∧ a' = { tmps := #[.slice A m c, undef, .slice none 0 0, .pointer (some ⟨S, 0, none⟩), .pointer (some ⟨Bx, 0, none⟩), .slice A m c, .int .i64 q, .slice (some ⟨w1.heap.size, 0, none⟩) 0 q, .slice A m c, .func (.func 22) #[] #[.pointer (some ⟨S + 1, 0, none⟩)], .agg #[.slice x.A x.n x.c, .bool x.b], undef, undef, undef, undef, undef, undef, undef, undef, undef], defers := [] })
    (fun x a' _ X Y row hs hg hr => by
      obtain ⟨Bx, h1, ⟨v, h2, h3⟩, h4, h5⟩ := hs
      exact ⟨Bx, PairAt.own Bx (fun (_ : Unit) => Value.slice x.A x.n x.c) (fun _ => .bool x.b) () X Y row h1 hg (fun r e => (hr r e).2), ⟨v, boxed_own S 28 (fun (_ : Unit) => v) () X Y row h2 hg (fun r e => (hr r e).2), h3⟩, h4, h5⟩)
    ?assign ?body ?done ?stop
  case assign =>
    rintro l pre x W K ⟨hSp, hB1⟩ hK
    have hsp := hSp
    obtain ⟨v, cs, hv, hrow, hlc⟩ := hsp
    gi_wp2
    refine hK _ _ ((KeepsOthers.alloc _ _).from _) ((Below.refl _ W).alloc hB1.size _) ⟨hSp.alloc _, hB1.alloc hB1.size _⟩ ⟨W.heap.size, PairAt.new W _ _, ⟨v, hv.alloc _, ?_⟩, hv.lt, rfl⟩
    intro e
    have := (hrow.lt _ e).2
    omega
  case body =>
    rintro l pre x a' W hl ⟨r, hr⟩ ⟨⟨v, cs, hv, hrow, hlc⟩, hB1⟩ ⟨Bx, hP, ⟨v2, hv2, hne⟩, hSB, rfl⟩ hlt
    obtain rfl : v2 = v := boxed_one hv2 hv
    have hri : RI .i32 W w.heap.size x.A x.n x.zs := x.ri.below hB1
    have xlen : x.zs.length = x.n := x.ri.len
    have xm := x.nm
    have hsW := hB1.size
    have hkl : (pre.map Ln.pl).length = pre.length := List.length_map _
    have c0 := hP.c0
    have f0 := hP.f 0
    have hn2 : 1 ≤ 5 - 1 - 1 := by omega
    gi_wp2_with (first
      | (gi_at_builtin; (refine wpListIn_append_ri _ rfl _ _ 23 rfl w.heap.size 25 i1 (.int .i32 0) 4 Try.underlying23 hj hy0 hy1 hy2 rfl (.slice none 0 0) 0 [] rfl (World.ownsRow_nil _ _ _ _) .i32 w.heap.size x.A x.n x.c x.zs rfl hri (by unfold maxLen; omega) (by omega) (by omega) ?_); intro v1 w3 h1 g1; simp only [Nat.zero_add, List.nil_append] at h1; obtain ⟨A1, c1, rfl, _, _, _⟩ := own_slice2 h1; have s3 := g1.size; obtain ⟨m1, m2, m3, m4, m5⟩ := split_mid (v1 := .slice A1 x.n c1) hv hrow hP hne hSB g1; have mf := m1.f 0; have ma := m1.c0; have m4c := m4.cell; have m3a := m3.c0; have m3b := m3.c1)
      | (gi_at_builtin; (refine wpListIn_append_own _ rfl _ _ 28 rfl w.heap.size 32 i0 (.agg #[.slice none 0 0, .bool false]) 2 32 Try.underlying28 hi hz0 hz1 hz2 rfl (by decide) v2 _ cs rfl (m5.alloc _) ⟨w3.heap.size, 0, none⟩ 1 1 [.slice A1 x.n c1, .bool x.b] rfl rfl (pair_new _ _ _ _ _ (by simp)) (by intro u hu; simp at hu; rcases hu with rfl | rfl <;> rfl) (by unfold maxLen; omega) (by omega) (by simp; omega) ?_); intro v' w4 hown' hgrow _; obtain ⟨g', cap', rfl⟩ := ownsRow_succ hown'; obtain ⟨⟨t1, t2⟩, t3, t4, t5, t6⟩ := split_step (x := x.pl) hv hrow hlc hP hne hSB hs2 h1 xlen.symm g1 hown' hgrow; have t1c := t1.cell; have t1f := t1.frozen))
    simp only [List.length_map] at t2 t3 t4 t5 t6
    refine ⟨t5.from _, t6, ⟨_, _, t3, by simpa using t4, by simpa using t2⟩, hB1.trans t6⟩
  case done =>
    rintro D ys W hD hS ⟨⟨v, cs, hv, hrow, hlc⟩, hB1⟩ hK
    have hc := hv.cell
    rw [hS] at hrow hlc
    gi_wp2
    refine ⟨by simp, .inl ⟨_, _, rfl, run_takeDeferred hK, ?_⟩⟩
    have hg := grownBy_putObj' W D (.deferred none)
    have hnc : ∀ r, some D = some r → ∃ o : Obj, W.heap[r]? = some o ∧ o.isCells = false := fun r e => by cases e; exact ⟨_, hK, rfl⟩
    obtain ⟨A2, c2, rfl, h1, h2, h3⟩ := LI.of_own (own_turn hrow hg hnc) (hlc.kept fun u n xs h => own_turn h hg hnc)
    exact ⟨_, results_tmp rfl _ _ _, A2, _, c2, rfl, h1, h2, h3, hB1.trans (belowK_b (w := w) (Nat.le_refl _) W D _ _ (by omega) hK rfl rfl)⟩
  case stop =>
    rintro D c pre W _ _ h _
    exact h.elim
end Go.Proofs.Ytlecioifjdmmmaa.C
