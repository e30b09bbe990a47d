/-
  The contract of lines.Count: as many as the text has lines; nothing that was there changes.
-/
import Derived.Test.YtlecioifjdmmmaaLnC
namespace Go.Proofs.Ytlecioifjdmmmaa.C
open Go.RowKit Go.Shelf
attribute [local go_sem] Oper.semAt_some

theorem each_stops (n : Nat) (hn : 1 ≤ n) (Bs B : Nat) (w0 w : World) (A : Option Addr) (m c : Nat) (zs : List Int) (hx : RI .i32 w0 B A m zs) (hmc : m ≤ c) (hc : c ≤ maxLen) (hbB : Below B w0 w) (hB : B ≤ w0.heap.size) (hBw : B ≤ w.heap.size) (hBl : Bs < w.heap.size)
    (hBs : w.cell? ⟨Bs, 0, none⟩ = some (.slice A m c)) :
    SeqStopsK Fence.wide n Try.prog 22 #[.pointer (some ⟨Bs, 0, none⟩)] (fun x : Ln w0 B m => #[.agg #[.slice x.A x.n x.c, .bool x.b]]) (Below B) (fun ys => ys.map Ln.pl = splitL zs) (fun pre => ∃ post, splitL zs = pre.map Ln.pl ++ post) m w := fun l J Jx W hW hJ _ hY h0 =>
  each1_in n hn l Bs B w0 A m c zs hx hmc hc J Jx W hJ (hbB.trans (hW.mono hBw)) hB hY ((hW.cell (p := ⟨Bs, 0, none⟩) hBl).trans hBs) h0

set_option maxRecDepth 100000 in
set_option maxHeartbeats 2000000 in
theorem count_any (w : World) (B : Nat) (A : Option Addr) (m c : Nat) (zs : List Int) (hx : RI .i32 w B A m zs) (hB : B ≤ w.heap.size) (hmc : m ≤ c) (hc : c ≤ maxLen) (hm : m ≤ 1073741824) :
    Calls Try.prog 10 #[.slice A m c] w fun e w' => e = .returned (.int .i64 ((splitL zs).length : Nat)) ∧ Below w.heap.size w w' := by
  have hlen := hx.len
  have hsl := split_len zs
  have HX := Lib.hid hx
  have HSL := Lib.hid (show (splitL zs).length ≤ m by omega)
  clear hx hsl hlen
  refine (callsIn_wide (n := 5)).1 ?_
  refine callsIn_of_wp_marks Try.func10 rfl trivial ?_ rfl
  simp only [Try.ntmps10, List.size_toArray, List.length_cons, List.length_nil, Nat.reduceAdd, Nat.reduceSub, Array.replicate_succ, Array.replicate_zero, List.push_toArray, List.append_toArray, List.nil_append, List.cons_append]
  gi_wp2_with fail
  refine ⟨trivial, (callsIn_wide.2 (each_any _ A m c)).mono ?_⟩
  rintro e w' ⟨rfl, rfl⟩
  gi_wp2
  have bS := Boxed.new w 3 (.int .i64 0)
  have bN := Boxed.new (w.alloc (.cells #[.int .i64 0] 3)) 23 (.slice A m c)
  rw [World.size_alloc] at bN
  have hB0 : Below w.heap.size w ((w.alloc (.cells #[.int .i64 0] 3)).alloc (.cells #[.slice A m c] 23)) := ((Below.refl _ w).alloc (Nat.le_refl _) _).alloc (by simp) _
  refine wpIn_rangeFunc_ownG rfl (by omega) (gf := 22) (lb := #[.pointer (some ⟨w.heap.size + 1, 0, none⟩)]) rfl trivial (enters_of Try.func22 (by kernel_rfl) rfl)
    (each_stops 4 (by omega) (w.heap.size + 1) w.heap.size w _ A m c zs (HX.out.more hB) hmc hc hB0 (Nat.le_refl _) (by simp; omega) (by simp) bN.cell) belowK_t (belowK_b (by simp; omega)) (Below.refl _ _) (fun _ => rfl)
    (fun pre W => (W.cell? ⟨w.heap.size, 0, none⟩ = some (.int .i64 (pre.length : Nat)) ∧ W.frozen? ⟨w.heap.size, 0, none⟩ = false) ∧ Below w.heap.size w W)
    (fun _ _ _ => False)
    (OwnFrom.and (Own.from (fun s A B row hs hg hr => ⟨cell_kept hs.1 hg hr, (frozen_kept hs.1 hg hr).trans hs.2⟩) _) (ownFrom_below (Nat.le_refl _) (by simp; omega)))
    (fun _ _ _ _ _ hs _ _ => hs)
    ⟨⟨(bS.alloc _).cell, (bS.alloc _).frozen⟩, hB0⟩
    (fun x => { tmps := #[.slice A m c, undef, .int .i64 0, .pointer (some ⟨w.heap.size, 0, none⟩), .slice A m c, .func (.func 22) #[] #[.pointer (some ⟨w.heap.size + 1, 0, none⟩)], .agg #[.slice x.A x.n x.c, .bool x.b], undef, undef, undef], defers := [] }) ?assign ?body ?done ?stop
  case assign =>
    intro l x W K hK
    gi_wp2
    simpa using hK
  case body =>
    rintro l pre x W ⟨⟨hc, hf⟩, hB⟩ hlt
    have hpl : pre.length < m := hlt
    gi_wp2
    exact ⟨(KeepsOthers.setCell _ _ _).from _, (Below.refl w.heap.size W).setCell (p := ⟨w.heap.size, 0, none⟩) (Nat.le_refl _) _, ⟨by simpa using World.cell?_setCell_same' W ⟨w.heap.size, 0, none⟩ (.int .i64 ((pre.length : Int) + 1)) (by rw [hc]; rfl), by rw [World.frozen?_setCell]; exact hf⟩, hB.setCell (p := ⟨w.heap.size, 0, none⟩) (Nat.le_refl _) _⟩
  case done =>
    rintro D ys W hD hS ⟨⟨hc, _⟩, hB⟩ hK
    have hl : ys.length = (splitL zs).length := by rw [← hS, List.length_map]
    rw [hl] at hc
    gi_wp2
    refine ⟨by simp, .inl ⟨_, _, rfl, run_takeDeferred hK, ?_⟩⟩
    exact ⟨_, results_tmp rfl _ _ _, rfl, hB.trans (belowK_b (w := w) (Nat.le_refl _) W D _ _ (by simp at hD; omega) hK rfl rfl)⟩
  case stop =>
    rintro D c pre W _ _ h _
    exact h.elim
end Go.Proofs.Ytlecioifjdmmmaa.C
