/-
  The contract of lines.Number: the line of a place and the place in it, of any cells (at most 2^30) and any place; nothing that was there changes.
-/
import Derived.Test.YtlecioifjdmmmaaLnF
namespace Go.Proofs.Ytlecioifjdmmmaa.C
open Go.RowKit Go.Shelf
attribute [local go_sem] Oper.semAt_some

set_option maxHeartbeats 1000000 in
theorem number_low (w : World) (A : Option Addr) (m c : Nat) (at_ : Int) (h : at_ < 0) :
    Calls Try.prog 16 #[.slice A m c, .int .i64 at_] w fun e w' => e = .returned (.tuple #[.int .i64 0, .int .i64 0]) ∧ Below w.heap.size w w' := by
  go_enter Try.func16, Try.ntmps16
  go_wp2
  go_ret2
  exact ⟨rfl, (Below.refl _ w).alloc (Nat.le_refl _) _⟩
set_option maxHeartbeats 1000000 in
theorem number_high (w : World) (A : Option Addr) (m c : Nat) (at_ : Int) (hm : m ≤ 1073741824) (h : (m : Int) < at_) :
    Calls Try.prog 16 #[.slice A m c, .int .i64 at_] w fun e w' => e = .returned (.tuple #[.int .i64 0, .int .i64 0]) ∧ Below w.heap.size w w' := by
  have h0 : ¬ at_ < 0 := by omega
  go_enter Try.func16, Try.ntmps16
  go_wp2
  go_ret2
  exact ⟨rfl, (Below.refl _ w).alloc (Nat.le_refl _) _⟩

/-- between two lines: what is left of the place, the line's number -/
def NmI (P N k : Nat) (ls : List (List Int × Bool)) (W : World) : Prop := ∃ a : Nat, k = endL ls + a ∧ Boxed W P 3 (.int .i64 (a : Int)) ∧ Boxed W N 3 (.int .i64 ((ls.length + 1 : Nat) : Int))
/-- the line is found -/
def NmX (P N k : Nat) (ls : List (List Int × Bool)) (W : World) : Prop := ∃ ini x a, ls = ini ++ [x] ∧ k = endL ini + a ∧ a ≤ x.1.length ∧ Boxed W P 3 (.int .i64 ((a : Nat) : Int)) ∧ Boxed W N 3 (.int .i64 ((ini.length + 1 : Nat) : Int))
theorem NmI.own {α : Type} (P N k : Nat) (f : α → List (List Int × Bool)) : Own (fun s W => NmI P N k (f s) W) := by
  rintro s X Y row ⟨a, h1, h2, h3⟩ hg hrow
  exact ⟨a, h1, boxed_own P 3 (fun _ : Unit => Value.int .i64 (a : Int)) () X Y row h2 hg hrow, boxed_own N 3 (fun _ : Unit => Value.int .i64 (((f s).length + 1 : Nat) : Int)) () X Y row h3 hg hrow⟩
theorem NmX.own {α : Type} (P N k : Nat) (f : α → List (List Int × Bool)) : Own (fun s W => NmX P N k (f s) W) := by
  rintro s X Y row ⟨ini, x, a, h0, h1, h4, h2, h3⟩ hg hrow
  exact ⟨ini, x, a, h0, h1, h4, boxed_own P 3 (fun _ : Unit => Value.int .i64 (a : Int)) () X Y row h2 hg hrow, boxed_own N 3 (fun _ : Unit => Value.int .i64 ((ini.length + 1 : Nat) : Int)) () X Y row h3 hg hrow⟩
theorem NmI.alloc {P N k : Nat} {ls : List (List Int × Bool)} {W : World} (h : NmI P N k ls W) (o : Obj) : NmI P N k ls (W.alloc o) := by
  obtain ⟨a, h1, h2, h3⟩ := h
  exact ⟨a, h1, h2.alloc o, h3.alloc o⟩

set_option maxRecDepth 100000 in
set_option maxHeartbeats 4000000 in
theorem number_in (w : World) (B : Nat) (A : Option Addr) (m c : Nat) (zs : List Int) (hx : RI .i32 w B A m zs) (hB : B ≤ w.heap.size) (hmc : m ≤ c) (hc : c ≤ maxLen) (hm : m ≤ 1073741824) (k : Nat) (hk : k ≤ m) :
    Calls Try.prog 16 #[.slice A m c, .int .i64 (k : Int)] w fun e w' => e = .returned (.tuple #[.int .i64 (((numP (zs.take k)).1 : Nat) : Int), .int .i64 (((numP (zs.take k)).2 : Nat) : Int)]) ∧ Below w.heap.size w w' := by
  have HL := Lib.hid hx.len
  have HX := Lib.hid hx
  clear hx
  refine (callsIn_wide (n := 5)).1 ?_
  refine callsIn_of_wp_marks Try.func16 rfl trivial ?_ rfl
  simp only [Try.ntmps16, List.size_toArray, List.length_cons, List.length_nil, Nat.reduceAdd, Nat.reduceSub, Array.replicate_succ, Array.replicate_zero, List.push_toArray, List.append_toArray, List.nil_append, List.cons_append]
  have hk0 : ¬ ((k : Int) < 0) := by omega
  have hk1 : ¬ ((m : Int) < (k : Int)) := by omega
  gi_wp2_with fail
  refine ⟨trivial, (callsIn_wide.2 (each_any _ A m c)).mono ?_⟩
  rintro e w' ⟨rfl, rfl⟩
  gi_wp2
  have bP := ((Boxed.new w 3 (.int .i64 (k : Int))).alloc (.cells #[.int .i64 1] 3)).alloc (.cells #[.slice A m c] 23)
  have bM := (Boxed.new (w.alloc (.cells #[.int .i64 (k : Int)] 3)) 3 (.int .i64 1)).alloc (.cells #[.slice A m c] 23)
  have bN := Boxed.new ((w.alloc (.cells #[.int .i64 (k : Int)] 3)).alloc (.cells #[.int .i64 1] 3)) 23 (.slice A m c)
  simp only [World.size_alloc] at bM bN
  have hB0 : Below w.heap.size w (((w.alloc (.cells #[.int .i64 (k : Int)] 3)).alloc (.cells #[.int .i64 1] 3)).alloc (.cells #[.slice A m c] 23)) := (((Below.refl _ w).alloc (Nat.le_refl _) _).alloc (by simp) _).alloc (by simp; omega) _
  have hsz : (((w.alloc (.cells #[.int .i64 (k : Int)] 3)).alloc (.cells #[.int .i64 1] 3)).alloc (.cells #[.slice A m c] 23)).heap.size = w.heap.size + 3 := by simp
  obtain ⟨W0, hW0⟩ : ∃ W0, ((w.alloc (.cells #[.int .i64 (k : Int)] 3)).alloc (.cells #[.int .i64 1] 3)).alloc (.cells #[.slice A m c] 23) = W0 := ⟨_, rfl⟩
  rw [hW0] at bP bM bN hB0 hsz ⊢
  clear hW0
  refine wpIn_rangeFunc_ownH rfl (by omega) (gf := 22) (lb := #[.pointer (some ⟨w.heap.size + 1 + 1, 0, none⟩)]) rfl trivial (enters_of Try.func22 (by kernel_rfl) rfl)
    (each_stops 4 (by omega) (w.heap.size + 1 + 1) w.heap.size w W0 A m c zs (HX.out.more hB) hmc hc hB0 (Nat.le_refl _) (by omega) (by omega) bN.cell) belowK_t (belowK_b (by omega)) (Below.refl _ _) (fun _ => rfl)
    (fun pre W => NmI w.heap.size (w.heap.size + 1) k (pre.map Ln.pl) W ∧ Below w.heap.size w W)
    (fun c pre W => (NmX w.heap.size (w.heap.size + 1) k (pre.map Ln.pl) W ∧ c = .exit 0) ∧ Below w.heap.size w W)
    (OwnFrom.and (Own.from (NmI.own _ _ _ (fun pre : List (Ln w w.heap.size m) => pre.map Ln.pl)) _) (ownFrom_below (Nat.le_refl _) (by omega)))
    (fun c => OwnFrom.and (Own.from (fun s X Y row hs hg hr => ⟨NmX.own _ _ _ (fun pre : List (Ln w w.heap.size m) => pre.map Ln.pl) s X Y row hs.1 hg hr, hs.2⟩) _) (ownFrom_below (Nat.le_refl _) (by omega)))
    ⟨⟨k, by simp [endL], bP, bM⟩, hB0⟩
    (fun x a' W => ∃ Bx, PairAt W Bx (.slice x.A x.n x.c) (.bool x.b) ∧ w.heap.size + 1 < Bx ∧ a' = { tmps := #[.slice A m c, .int .i64 (k : Int), undef, .pointer (some ⟨w.heap.size, 0, none⟩), .int .i64 0, .int .i64 0, .pointer (some ⟨w.heap.size + 1, 0, none⟩), .pointer (some ⟨Bx, 0, none⟩), .int .i64 (k : Int), .bool false, .bool false, .int .i64 (k : Int), .slice A m c, .int .i64 (m : Int), .bool false, .bool false, .slice A m c, .func (.func 22) #[] #[.pointer (some ⟨w.heap.size + 1 + 1, 0, none⟩)], .agg #[.slice x.A x.n x.c, .bool x.b], undef, undef, undef, undef, undef, undef, undef, undef, undef, undef, undef, undef, undef, undef, undef, undef], defers := [] })
    (fun x a' _ X Y row hs hg hr => by
      obtain ⟨Bx, h1, h4, h5⟩ := hs
      exact ⟨Bx, PairAt.own Bx (fun (_ : Unit) => Value.slice x.A x.n x.c) (fun _ => .bool x.b) () X Y row h1 hg (fun r e => (hr r e).2), h4, h5⟩)
    ?assign ?body ?done ?stop
  case assign =>
    rintro l pre x W K ⟨hN, hB1⟩ hK
    have hn := hN
    obtain ⟨a, hd, _, hn3⟩ := hn
    clear hd
    gi_wp2
    exact hK _ _ ((KeepsOthers.alloc _ _).from _) ((Below.refl _ W).alloc hB1.size _) ⟨hN.alloc _, hB1.alloc hB1.size _⟩ ⟨W.heap.size, PairAt.new W _ _, hn3.lt, rfl⟩
  case body =>
    rintro l pre x a' W hl ⟨r, hr⟩ ⟨⟨a, ha, hP, hM⟩, hB1⟩ ⟨Bx, hX, hBx, rfl⟩ hlt
    have xlen : x.zs.length = x.n := x.ri.len
    have xm := x.nm
    have hkl : (pre.map Ln.pl).length = pre.length := List.length_map _
    rw [hkl] at hM
    have HA := Lib.hid ha
    have hab : a ≤ 1073741824 := by omega
    clear ha
    have c0 := hX.c0
    have cP := hP.cell
    have fP := hP.frozen
    have cM := hM.cell
    have fM := hM.frozen
    by_cases hax : a ≤ x.n
    · have hax' : (a : Int) ≤ (x.n : Int) := by omega
      gi_wp2
      exact ⟨KeepsFrom.refl _ _, ⟨⟨pre.map Ln.pl, x.pl, a, by simp, HA.out, by show a ≤ x.zs.length; omega, hP, by rw [hkl]; exact hM⟩, rfl⟩, hB1⟩
    · have hax' : ¬ (a : Int) ≤ (x.n : Int) := by omega
      have hcM : ∀ u, (W.setCell ⟨w.heap.size, 0, none⟩ u).cell? ⟨w.heap.size + 1, 0, none⟩ = some (.int .i64 ((pre.length + 1 : Nat) : Int)) := fun u => (hM.other (by omega) u).cell
      have hfM : ∀ u, (W.setCell ⟨w.heap.size, 0, none⟩ u).frozen? ⟨w.heap.size + 1, 0, none⟩ = false := fun u => (hM.other (by omega) u).frozen
      gi_wp2
      have e1 : (a : Int) - ((x.n : Int) + 1) = ((a - (x.n + 1) : Nat) : Int) := by omega
      have e2 : (pre.length : Int) + 1 + 1 = ((((pre ++ [x]).map Ln.pl).length + 1 : Nat) : Int) := by simp
      rw [e1, e2]
      refine ⟨((KeepsOthers.setCell _ _ _).trans (KeepsOthers.setCell _ _ _)).from _, ((Below.refl w.heap.size W).setCell (p := ⟨w.heap.size, 0, none⟩) (Nat.le_refl _) _).setCell (p := ⟨w.heap.size + 1, 0, none⟩) (Nat.le_succ _) _, ⟨a - (x.n + 1), ?_, (hP.set _).other (show w.heap.size ≠ w.heap.size + 1 by omega) _, (hM.other (show w.heap.size + 1 ≠ w.heap.size by omega) _).set _⟩, (hB1.setCell (p := ⟨w.heap.size, 0, none⟩) (Nat.le_refl _) _).setCell (p := ⟨w.heap.size + 1, 0, none⟩) (Nat.le_succ _) _⟩
      have h1 := HA.out
      rw [List.map_append, List.map_cons, List.map_nil, endL_snoc]
      have h2 : x.pl.1.length = x.n := xlen
      omega
  case done =>
    rintro D ys W hD hS ⟨⟨a, ha, hP, hM⟩, hB1⟩ hK
    obtain ⟨h1, h2⟩ := num_end (zs := zs) (k := k) (by rw [HL.out]; exact hk) (by rw [← hS]; omega)
    rw [← hS] at h1 h2
    have ha0 : a = 0 := by omega
    subst ha0
    have H1 := Lib.hid h1
    clear h1 h2 ha
    have cP := hP.cell
    have cM := hM.cell
    gi_wp2
    gi_region
    all_goals gi_wp2
    refine ⟨by simp, .inl ⟨_, _, rfl, run_takeDeferred (show W.drew.heap[D]? = _ from hK), ?_⟩⟩
    refine ⟨.tuple #[.int .i64 (((splitL zs).length : Int) + 1), .int .i64 (1)], ?_, ?_, (below_drew hB1).trans (belowK_b (w := w) (Nat.le_refl _) W.drew D _ _ (by omega) (show W.drew.heap[D]? = _ from hK) rfl rfl)⟩
    · simp [results, Try.f16, go_sem]
    · rw [H1.out]
      rw [hS]
      simp
  case stop =>
    rintro D c pre W hD ⟨post, hS⟩ ⟨⟨⟨ini, x, a, h0, ha, hax, hP, hM⟩, rfl⟩, hB1⟩ hK
    have h1 := num_in (zs := zs) (pre := ini) (post := post) (x := x) (by rw [hS, h0]; simp) hax
    rw [← ha] at h1
    have H1 := Lib.hid h1
    have hab : a ≤ 1073741824 := by omega
    clear h1 ha h0 hS
    have cP := hP.cell
    have cM := hM.cell
    gi_wp2
    gi_region
    all_goals gi_wp2
    refine ⟨by simp, .inl ⟨_, _, rfl, run_takeDeferred (show W.drew.heap[D]? = _ from hK), ?_⟩⟩
    refine ⟨.tuple #[.int .i64 ((ini.length : Int) + 1), .int .i64 ((a : Int) + 1)], ?_, ?_, (below_drew hB1).trans (belowK_b (w := w) (Nat.le_refl _) W.drew D _ _ (by omega) (show W.drew.heap[D]? = _ from hK) rfl rfl)⟩
    · simp [results, Try.f16, go_sem]
    · rw [H1.out]
      simp
end Go.Proofs.Ytlecioifjdmmmaa.C
