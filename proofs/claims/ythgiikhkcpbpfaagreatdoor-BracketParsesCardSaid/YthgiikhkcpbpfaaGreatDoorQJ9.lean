/-
  Joined: QBbG, QBbH, QBbI, QBbJ, QBbK. The document's own element. Condition: no more than 1000 cells, elements. | The document's own class. Condition: no more than 1000 cells, 1000 ranges of a class, 1000000000 of the set. | The document's own Alike, once more, with where its answer lies; rows of cells beside a reader's box. No condition but what each names. | The document's own alike. Condition: no more than 1000 cells, 500 elements, 1000000000 of each in the set. | The document's own between. Condition: no more than 1000 cells, 500 elements, 1000000000 of each in the set.
-/
import Derived.Test.YthgiikhkcpbpfaaGreatDoorQJ8
import Derived.Test.YthgiikhkcpbpfaaGreatDoorQBaI
import Derived.Test.YthgiikhkcpbpfaaGreatDoorB17
import Derived.Test.YthgiikhkcpbpfaaGreatDoorB24
import Derived.Test.YthgiikhkcpbpfaaGreatDoorB27
import Derived.Test.YthgiikhkcpbpfaaGreatDoorQBaJ
namespace Go.Proofs.YthgiikhkcpbpfaaGreatDoor.C
open Go.RowKit

theorem namedB_C {L : Loc} {l : List Int} {b k : Nat} {x : Int} {cs : List Int} {k' : Nat} (h : upToL l k x = .ok (cs, k')) (h0 : cs ≠ []) : namedB L l b k x = match namedC L cs b with | .error e => .error e | .ok c' => .ok (c', k') := by
 unfold namedB namedC
 rw [h]
 simp only [if_neg h0]
 by_cases h1 : namedT L.ord (textL cs) ≠ []
 ·rw [if_pos h1, if_pos h1]
 ·rw [if_neg h1, if_neg h1]
  by_cases h2 : placeV L.ord cs < 0
  ·rw [if_pos h2, if_pos h2]
  ·rw [if_neg h2, if_neg h2]
set_option maxRecDepth 100000 in
set_option maxHeartbeats 8000000 in
theorem element10_any (w : World) (B : Nat) (v1 v2 v3 v4 : Value) (L : Loc) (Al : Option Addr) (n cl k : Nat) (l : List Int) (s : BSet) (AR : Option Addr) (cR : Nat) (AT : Option Addr) (cT : Nat)
  (hL : LocR w B v1 v2 v3 v4 L) (hB : B ≤ w.heap.size) (h5 : L.ord.length ≤ 500) (hs : SetW w AR AT s) (hl : RI .i32 w B Al n l) (hk : k < n) (hn : n ≤ 1000) (hcl : n ≤ cl) :
  Calls Tryz.prog 78 #[rvV Al n cl k s.no AR s.rs.length cR AT s.ts.length cT 0 0, .agg #[v1, v2, v3, v4]] w fun e w' => ElTold w w' (elemB10 L l k) Al n cl s AR cR AT cT e := by
 unfold rvV
 obtain ⟨S, hS⟩ : ∃ S, w.heap.size = S := ⟨_, rfl⟩
 obtain ⟨W, hW⟩ : ∃ W, W = ((w.alloc (.cells (rvC Al n cl k s AR cR AT cT) 144)).alloc (.cells #[v1, v2, v3, v4] 27)).alloc (.cells #[.slice none 0 0, .int .i64 0, .bool false, .slice none 0 0, .slice none 0 0, .int .i64 0, .int .i64 0] 144) := ⟨_, rfl⟩
 have H := Lib.hid (RSt.start hS hW (by omega) hs hl hL)
 have HSS := Lib.hid hS
 have hlen := hl.len
 have HLEN := Lib.hid hlen
 obtain ⟨ad, u, rfl, -, hu, -⟩ := hl.at_ hk
 have HU := Lib.hid hu
 clear hL hs hl hlen hu
 obtain ⟨b1, hb1⟩ : ∃ b1, b1 = atS l k [91] := ⟨_, rfl⟩
 obtain ⟨b2, hb2⟩ : ∃ b2, b2 = atS l (k + 1) [46] := ⟨_, rfl⟩
 have hst1 := stands10_any W B (some ad) n cl l k k 91 H.out.l rfl
 have hst2 := stands10_any W B (some ad) n cl l (k + 1) ((k : Int) + 1) 46 H.out.l (by omega)
 rw [← hb1] at hst1
 rw [← hb2] at hst2
 have HBB : Hid (atS l k [91, 46] = (b1 && b2)) := Lib.hid (by rw [atS_two, hb1, hb2])
 clear hb1 hb2
 go_enter Tryz.func78, Tryz.ntmps78
 unfold rvC at hW
 go_upto_region 1 with fail
 rw [← hW]
 clear hW hS
 obtain ⟨p0, p1, p2, p3, p4, p5, p6⟩ := H.out.r1.seven
 have f1 := H.out.r1.frozen 1
 by_cases hbb : b1 = true ∧ b2 = true
 ·obtain ⟨rfl, rfl⟩ := hbb
  have hE : Hid (elemB10 L l k = namedB L l k (k + 2) 46) := Lib.hid (by unfold elemB10; rw [HBB.out, if_pos (by rfl)])
  have hk2 : k + 2 ≤ n := by
   have h1 := atS_len (l := l) (k := k) (s := [91, 46]) (by rw [HBB.out]; rfl) (by simp)
   have h2 := HLEN.out
   simp at h1
   omega
  have hin := inner10_any W B (some ad) n cl l (k + 2) ((k : Int) + 2) 46 H.out.l (by have := H.out.sz; have := H.out.hB; omega) hcl hk2 (by omega) (by omega)
  unfold InTold at hin
  clear hk2
  go_wp2_with (first | ((with_reducible refine hst1.mono ?_); rintro e w' ⟨rfl, rfl⟩) | ((with_reducible refine hst2.mono ?_); rintro e w' ⟨rfl, rfl⟩))
  refine hin.mono ?_
  clear hin hst1 hst2
  cases hu : upToL l (k + 2) 46 with
  | error er =>
   rintro e w2 ⟨⟨q, rfl⟩, A2, n2, c2, i2, rfl⟩
   obtain rfl := upToL_err hu
   have HV : Hid (elemB10 L l k = .error (30, n)) := Lib.hid (by rw [hE.out]; unfold namedB; rw [hu]; simp only [HLEN.out])
   have H2 := Lib.hid (H.out.drewN q)
   have hfl := fail10_any (w'.drewN q) (some ad) n cl k s.no AR s.rs.length cR AT s.ts.length cT 30 n
   clear hu
   go_wp2_with fail
   refine hfl.mono ?_
   rintro e w3 ⟨rfl, hb3⟩
   have H3 := Lib.hid (H2.out.next hb3)
   clear hfl hb3 p0 p1 p2 p3 p4 p5 p6 f1
   obtain ⟨z0, z1, z2, z3, z4, z5, z6⟩ := H3.out.r3.seven
   obtain ⟨y0, y1, y2, y3, y4, y5, y6⟩ := H3.out.r3.fz7
   go_wp2
   obtain ⟨hs9, hb9, hr9, -⟩ := H3.out.end_ H3.out.sw H3.out.lt (.slice (some ad) n cl) (.int .i64 k) (.bool s.no) (.slice AR s.rs.length cR) (.slice AT s.ts.length cT) (.int .i64 30) (.int .i64 n) _ rfl
   obtain ⟨e0, e1, e2, e3, e4, e5, e6⟩ := hr9.seven
   unfold s7 at e0 e1 e2 e3 e4 e5 e6 hs9 hb9
   refine bodyPost_ret (v := .tuple #[.agg #[.slice (some ad) n cl, .int .i64 k, .bool s.no, .slice AR s.rs.length cR, .slice AT s.ts.length cT, .int .i64 30, .int .i64 n], .slice none 0 0]) (by simp [results, Tryz.results78, go_sem, e0, e1, e2, e3, e4, e5, e6]) rfl ?_
   exact ⟨by rw [HSS.out]; exact hb9, none, 0, [], k, 30, n, rfl, RI.none_, hs9, .inr ⟨by omega, HV.out⟩⟩
  | ok pp =>
   obtain ⟨cs, k'⟩ := pp
   rintro e w2 ⟨⟨q, rfl⟩, A2, c2, rfl, hri⟩
   have H2 := Lib.hid (H.out.drewN q)
   have HRI := Lib.hid hri
   have HU2 := Lib.hid hu
   obtain ⟨hk3, hk4, -, hk5⟩ := upToL_ok hu
   have hcn : cs.length ≤ 1000 := by have := HLEN.out; omega
   clear hri hu hk5
   by_cases h0 : cs = []
   ·subst h0
    have HV : Hid (elemB10 L l k = .error (30, n)) := Lib.hid (by rw [hE.out]; unfold namedB; rw [HU2.out]; simp only [if_pos, HLEN.out])
    have hfl := fail10_any (w'.drewN q) (some ad) n cl k s.no AR s.rs.length cR AT s.ts.length cT 30 n
    simp only [List.length_nil]
    go_wp2_with fail
    refine hfl.mono ?_
    rintro e w3 ⟨rfl, hb3⟩
    have H3 := Lib.hid (H2.out.next hb3)
    clear hfl hb3 p0 p1 p2 p3 p4 p5 p6 f1
    obtain ⟨z0, z1, z2, z3, z4, z5, z6⟩ := H3.out.r3.seven
    obtain ⟨y0, y1, y2, y3, y4, y5, y6⟩ := H3.out.r3.fz7
    go_wp2
    obtain ⟨hs9, hb9, hr9, -⟩ := H3.out.end_ H3.out.sw H3.out.lt (.slice (some ad) n cl) (.int .i64 k) (.bool s.no) (.slice AR s.rs.length cR) (.slice AT s.ts.length cT) (.int .i64 30) (.int .i64 n) _ rfl
    obtain ⟨e0, e1, e2, e3, e4, e5, e6⟩ := hr9.seven
    unfold s7 at e0 e1 e2 e3 e4 e5 e6 hs9 hb9
    refine bodyPost_ret (v := .tuple #[.agg #[.slice (some ad) n cl, .int .i64 k, .bool s.no, .slice AR s.rs.length cR, .slice AT s.ts.length cT, .int .i64 30, .int .i64 n], .slice none 0 0]) (by simp [results, Tryz.results78, go_sem, e0, e1, e2, e3, e4, e5, e6]) rfl ?_
    exact ⟨by rw [HSS.out]; exact hb9, none, 0, [], k, 30, n, rfl, RI.none_, hs9, .inr ⟨by omega, HV.out⟩⟩
   ·have HV : Hid (elemB10 L l k = match namedC L cs k with | .error e => .error e | .ok c' => .ok (c', k')) := Lib.hid (by rw [hE.out]; exact namedB_C HU2.out h0)
    have hnl : ((cs.length : Int) == 0) = false := by
     have := List.length_pos_iff.2 h0
     simp
     omega
    go_upto_region 9 with fail
    refine wp_nameW fun w3 hw3 => ?_
    have H3 := Lib.hid (H2.out.setI k' (z := (k' : Int)) rfl)
    rw [← hw3] at H3
    have hb23 : Below S (w'.drewN q) w3 := by rw [hw3]; exact (Below.refl S (w'.drewN q)).setCell (Nat.le_refl _) _
    have HRI3 := Lib.hid (HRI.out.on hb23 H.out.hB)
    have hnd := named10_any w3 B B v1 v2 v3 v4 L (some ad) n cl k' s AR cR AT cT A2 cs.length c2 cs k k H3.out.loc (by have := H3.out.sz; have := H3.out.hB; omega) h5 H3.out.sw HRI3.out (by have := H3.out.sz; have := H3.out.hB; omega) hcn rfl
    unfold rvV at hnd
    clear hw3 hb23 p0 p1 p2 p3 p4 p5 p6 f1 hnl
    obtain ⟨p0, p1, p2, p3, p4, p5, p6⟩ := H3.out.r1.seven
    obtain ⟨d0, d1, d2, d3⟩ := H3.out.r2.four
    go_wp2_with fail
    refine hnd.mono ?_
    rintro e w4 ⟨hb4, A', c', cs', E, P, rfl, hri4, hs4, hcase⟩
    have H4 := Lib.hid (H3.out.next hb4)
    have HX4 := Lib.hid (And.intro hri4 hs4)
    have HCASE := Lib.hid hcase
    clear hnd hb4 hri4 hs4 hcase p0 p1 p2 p3 p4 p5 p6 d0 d1 d2 d3
    obtain ⟨z0, z1, z2, z3, z4, z5, z6⟩ := H4.out.r3.seven
    obtain ⟨y0, y1, y2, y3, y4, y5, y6⟩ := H4.out.r3.fz7
    try simp only [rvV]
    go_wp2
    obtain ⟨hs9, hb9, hr9, hri9⟩ := H4.out.end_ HX4.out.2 H4.out.lt (.slice (some ad) n cl) (.int .i64 k') (.bool s.no) (.slice AR s.rs.length cR) (.slice AT s.ts.length cT) (.int .i64 E) (.int .i64 P) _ rfl
    have hri := hri9 _ A' cs'.length cs' (Nat.le_refl _) HX4.out.1
    obtain ⟨e0, e1, e2, e3, e4, e5, e6⟩ := hr9.seven
    unfold s7 at e0 e1 e2 e3 e4 e5 e6 hs9 hb9 hri
    refine bodyPost_ret (v := .tuple #[.agg #[.slice (some ad) n cl, .int .i64 k', .bool s.no, .slice AR s.rs.length cR, .slice AT s.ts.length cT, .int .i64 E, .int .i64 P], .slice A' cs'.length c']) (by simp [results, Tryz.results78, go_sem, e0, e1, e2, e3, e4, e5, e6]) rfl ?_
    refine ⟨by rw [HSS.out]; exact hb9, A', c', cs', k', E, P, rfl, hri, hs9, ?_⟩
    rcases HCASE.out with ⟨hE0, hP0, hc⟩ | ⟨hE0, hc⟩
    ·exact .inl ⟨hE0, hP0, by rw [HV.out, hc]⟩
    ·exact .inr ⟨hE0, by rw [HV.out, hc]⟩
 ·have hE : Hid (elemB10 L l k = .ok ([u], k + 1)) := Lib.hid (by unfold elemB10; rw [HBB.out, if_neg (by simpa using hbb), HU.out])
  have hR1 : Hid (∀ w', RI .i32 w' B (some ad) n l → RI .i32 w' B (some (ad.add k)) 1 [u]) := Lib.hid (fun w' h => by
   have h1 := h.cut (k := k) (m := 1) (cap := cl) (by omega) hcl
   rw [if_neg (by omega)] at h1
   have e : (l.drop k).take 1 = [u] := by
    rw [show l.drop k = u :: l.drop (k + 1) from List.drop_eq_getElem?_toList_append.trans (by rw [HU.out]; rfl)]
    rfl
   rw [e] at h1
   exact h1)
  have k0 : (0 : Int) ≤ (k : Int) := by omega
  have k1 : (k : Int) + 1 ≤ (cl : Int) := by omega
  have hpk : ¬ cl = k := by omega
  cases b1 <;> cases b2 <;> first | exact absurd ⟨rfl, rfl⟩ hbb | skip
  all_goals
   clear hbb
   go_wp2_with (first | ((with_reducible refine hst1.mono ?_); rintro e w' ⟨rfl, rfl⟩) | ((with_reducible refine hst2.mono ?_); rintro e w' ⟨rfl, rfl⟩))
   refine wp_nameW fun w3 hw3 => ?_
   obtain ⟨p, hp⟩ : ∃ p, p = k + 1 := ⟨_, rfl⟩
   have H3 := Lib.hid (H.out.setI p (z := (k : Int) + 1) (by omega))
   rw [← hw3] at H3
   rw [← hp] at hE
   clear hw3 hst1 hst2 p0 p1 p2 p3 p4 p5 p6 f1
   obtain ⟨p0, p1, p2, p3, p4, p5, p6⟩ := H3.out.r1.seven
   have hS1 : (fun W' : World => W'.cell? ⟨S, 0, none⟩ = some (.slice (some ad) n cl) ∧ W'.cell? ⟨S, 1, none⟩ = some (.int .i64 (p : Int)) ∧ W'.cell? ⟨S, 2, none⟩ = some (.bool s.no) ∧ W'.cell? ⟨S, 3, none⟩ = some (.slice AR s.rs.length cR) ∧ W'.cell? ⟨S, 4, none⟩ = some (.slice AT s.ts.length cT) ∧ W'.cell? ⟨S, 5, none⟩ = some (.int .i64 0) ∧ W'.cell? ⟨S, 6, none⟩ = some (.int .i64 0)) w3.drew := ⟨p0, p1, p2, p3, p4, p5, p6⟩
   refine wp_region_held (S := fun W' : World => W'.cell? ⟨S, 0, none⟩ = some (.slice (some ad) n cl) ∧ W'.cell? ⟨S, 1, none⟩ = some (.int .i64 (p : Int)) ∧ W'.cell? ⟨S, 2, none⟩ = some (.bool s.no) ∧ W'.cell? ⟨S, 3, none⟩ = some (.slice AR s.rs.length cR) ∧ W'.cell? ⟨S, 4, none⟩ = some (.slice AT s.ts.length cT) ∧ W'.cell? ⟨S, 5, none⟩ = some (.int .i64 0) ∧ W'.cell? ⟨S, 6, none⟩ = some (.int .i64 0)) (by kernel_rfl) ?_
   change wpAnyH _ _ _ _ _ _ _ _ w3.drew
   have wk : IntKind.i64.wrap ((k : Int) + 1) = (p : Int) := by rw [IntKind.wrap_i64]; omega
   have wk0 : (0 : Int) ≤ (p : Int) := by omega
   have wk1 : (p : Int) ≤ (cl : Int) := by omega
   have wk2 : k ≤ p := by omega
   have wk3 : p - k = 1 := by omega
   have wk4 : ((p : Int)).toNat = p := by omega
   have HP := Lib.hid hp
   clear hp
   iterate 7 (refine wpH rfl rfl ?_; try simp only [Act.put, g1, g2, g3, g4, g5, g6])
   obtain ⟨z0, z1, z2, z3, z4, z5, z6⟩ := H3.out.r3.seven
   obtain ⟨y0, y1, y2, y3, y4, y5, y6⟩ := H3.out.r3.fz7
   refine wpAnyH_one (i := 7) (by kernel_rfl) rfl (fun K hK => ?_)
   simp only [g4, g5, g6]
   go_simp
   obtain ⟨w9, hw9⟩ : ∃ w9, w9 = (s7 w3 (S + 1 + 1) (.slice (some ad) n cl) (.int .i64 (p : Int)) (.bool s.no) (.slice AR s.rs.length cR) (.slice AT s.ts.length cT) (.int .i64 0) (.int .i64 0)).drew := ⟨_, rfl⟩
   obtain ⟨hs9, hb9, hr9, hri9, hbx⟩ := H3.out.end2 H3.out.sw H3.out.lt _ _ _ _ _ _ _ w9 hw9
   unfold s7 at hw9
   rw [← hw9]
   refine hK.out _ _ hbx.seven (fun _ => ?_)
   try simp only [Act.put, g1, g2, g3, g4, g5, g6]
   have hS1 : (fun W' : World => W'.cell? ⟨S, 0, none⟩ = some (.slice (some ad) n cl) ∧ W'.cell? ⟨S, 1, none⟩ = some (.int .i64 (p : Int)) ∧ W'.cell? ⟨S, 2, none⟩ = some (.bool s.no) ∧ W'.cell? ⟨S, 3, none⟩ = some (.slice AR s.rs.length cR) ∧ W'.cell? ⟨S, 4, none⟩ = some (.slice AT s.ts.length cT) ∧ W'.cell? ⟨S, 5, none⟩ = some (.int .i64 0) ∧ W'.cell? ⟨S, 6, none⟩ = some (.int .i64 0)) w9 := hbx.seven
   iterate 1 (refine wpH rfl rfl ?_; try simp only [Act.put, g1, g2, g3, g4, g5, g6])
   refine wpAnyH_done (by kernel_rfl) ?_ _
   have hri := hri9 B (some (ad.add k)) 1 [u] (by have := H3.out.sz; have := H3.out.hB; omega) (hR1.out _ H3.out.l)
   clear hK hw9 hS1 hri9 hbx p0 p1 p2 p3 p4 p5 p6 z0 z1 z2 z3 z4 z5 z6 y0 y1 y2 y3 y4 y5 y6
   obtain ⟨e0, e1, e2, e3, e4, e5, e6⟩ := hr9.seven
   clear wk wk0 wk1 wk2 wk3 wk4
   go_wp2
   refine bodyPost_ret (v := .tuple #[.agg #[.slice (some ad) n cl, .int .i64 p, .bool s.no, .slice AR s.rs.length cR, .slice AT s.ts.length cT, .int .i64 0, .int .i64 0], .slice (some (ad.add k)) 1 (cl - k)]) (by simp [results, Tryz.results78, go_sem, e0, e1, e2, e3, e4, e5, e6]) rfl ?_
   exact ⟨by rw [HSS.out]; exact hb9, _, _, [u], p, 0, 0, rfl, hri, hs9, .inl ⟨rfl, rfl, hE.out⟩⟩
end Go.Proofs.YthgiikhkcpbpfaaGreatDoor.C
namespace Go.Proofs.YthgiikhkcpbpfaaGreatDoor.C
open Go.RowKit

set_option maxRecDepth 100000 in
set_option maxHeartbeats 8000000 in
theorem class10_any (w : World) (B : Nat) (v1 v2 v3 v4 : Value) (L : Loc) (Al : Option Addr) (n cl k : Nat) (l : List Int) (s : BSet) (AR : Option Addr) (cR : Nat) (AT : Option Addr) (cT : Nat)
  (hL : LocR w B v1 v2 v3 v4 L) (hB : B ≤ w.heap.size) (hc5 : ∀ c ∈ L.cls, c.rs.length ≤ 1000) (hs : SetW w AR AT s) (hl : RI .i32 w B Al n l) (hn : n ≤ 1000) (hcl : n ≤ cl) (h1 : s.rs.length ≤ 1000000000) (hat : atS l k [91, 58] = true) :
  Calls Tryz.prog 76 #[rvV Al n cl k s.no AR s.rs.length cR AT s.ts.length cT 0 0, .agg #[v1, v2, v3, v4]] w fun e w' => ∃ v, e = .returned v ∧ RTold w w' Al n cl AT (itemB L l s k) v := by
 unfold rvV
 obtain ⟨i0, hi, hz0, hz1, hz2⟩ := info_parts infoRange8
 obtain ⟨S, hS⟩ : ∃ S, w.heap.size = S := ⟨_, rfl⟩
 obtain ⟨W, hW⟩ : ∃ W, W = ((w.alloc (.cells (rvC Al n cl k s AR cR AT cT) 144)).alloc (.cells #[v1, v2, v3, v4] 27)).alloc (.cells #[.slice none 0 0, .int .i64 0, .bool false, .slice none 0 0, .slice none 0 0, .int .i64 0, .int .i64 0] 144) := ⟨_, rfl⟩
 have H := Lib.hid (RSt.start hS hW (by omega) hs hl hL)
 have HSS := Lib.hid hS
 have HLEN := Lib.hid hl.len
 have HE := Lib.hid (item_class (L := L) (s := s) hat)
 have HON := Lib.hid hs.ones
 have HC5 := Lib.hid hc5
 have hk2 : k + 2 ≤ n := by
  have h1 := atS_len hat (by simp)
  have h2 := hl.len
  simp at h1
  omega
 clear hL hs hl hat hc5
 have hin := inner10_any W B Al n cl l (k + 2) ((k : Int) + 2) 58 H.out.l (by have := H.out.sz; have := H.out.hB; omega) hcl hk2 (by omega) (by omega)
 unfold InTold at hin
 go_enter Tryz.func76, Tryz.ntmps76
 unfold rvC at hW
 go_upto_region 1 with fail
 rw [← hW]
 clear hW hS
 obtain ⟨p0, p1, p2, p3, p4, p5, p6⟩ := H.out.r1.seven
 go_wp2_with fail
 refine hin.mono ?_
 clear hin
 cases hu : upToL l (k + 2) 58 with
 | error er =>
  rintro e w2 ⟨⟨q, rfl⟩, A2, n2, c2, i2, rfl⟩
  obtain rfl := upToL_err hu
  have HV : Hid (itemB L l s k = .error (30, n)) := Lib.hid (by rw [HE.out]; unfold classB; rw [hu]; simp only [HLEN.out])
  have H2 := Lib.hid (H.out.drewN q)
  have hfl := fail10_any (W.drewN q) Al n cl k s.no AR s.rs.length cR AT s.ts.length cT 30 n
  clear hu
  go_wp2_with fail
  refine hfl.mono ?_
  rintro e w3 ⟨rfl, hb3⟩
  have H3 := Lib.hid (H2.out.next hb3)
  clear hfl hb3 p0 p1 p2 p3 p4 p5 p6
  obtain ⟨z0, z1, z2, z3, z4, z5, z6⟩ := H3.out.r3.seven
  obtain ⟨y0, y1, y2, y3, y4, y5, y6⟩ := H3.out.r3.fz7
  go_wp2
  obtain ⟨hs9, hb9, hr9, -⟩ := H3.out.end_ H3.out.sw H3.out.lt (.slice Al n cl) (.int .i64 k) (.bool s.no) (.slice AR s.rs.length cR) (.slice AT s.ts.length cT) (.int .i64 30) (.int .i64 n) _ rfl
  obtain ⟨e0, e1, e2, e3, e4, e5, e6⟩ := hr9.seven
  unfold s7 at e0 e1 e2 e3 e4 e5 e6 hs9 hb9
  refine bodyPost_ret (v := .agg #[.slice Al n cl, .int .i64 k, .bool s.no, .slice AR s.rs.length cR, .slice AT s.ts.length cT, .int .i64 30, .int .i64 n]) (by simp [results, Tryz.results76, go_sem, e0, e1, e2, e3, e4, e5, e6]) rfl ?_
  exact ⟨_, rfl, by rw [HSS.out]; exact hb9, s, AR, cR, AT, cT, k, 30, n, rfl, hs9, NewOr.refl _ _, .inr ⟨by omega, HV.out⟩⟩
 | ok pp =>
  obtain ⟨cs, k'⟩ := pp
  rintro e w2 ⟨⟨q, rfl⟩, A2, c2, rfl, hri⟩
  have H2 := Lib.hid (H.out.drewN q)
  have HRI := Lib.hid hri
  obtain ⟨hk3, hk4, -, hk5⟩ := upToL_ok hu
  have hcn : cs.length ≤ 1000 := by have := HLEN.out; omega
  have HV : Hid (itemB L l s k = match rangesL L.cls (textL cs) with | none => .error (31, k) | some rs => .ok (⟨s.no, s.rs ++ rs, s.ts⟩, k')) := Lib.hid (by
   rw [HE.out]
   unfold classB
   rw [hu]
   simp only
   cases rangesL L.cls (textL cs) <;> rfl)
  have HLN : Hid (∀ rs, rangesL L.cls (textL cs) = some rs → rs.length ≤ 1000) := Lib.hid (fun rs hr => classB_len (l := l) (b := k) (k := k + 2) (k' := k') (by unfold classB; rw [hu]; simp only; rw [hr]) HC5.out)
  clear hri hu hk5
  go_upto_region 5 with fail
  have htx := refText_any (W.drewN q).drew S A2 cs.length c2 cs (HRI.out.more (by exact H.out.hB)).drew (by have := H.out.sz; show S ≤ W.heap.size; omega) hcn
  obtain ⟨d0, d1, d2, d3⟩ := H2.out.r2.four
  have hS1 : (fun W' : World => W'.cell? ⟨S + 1, 0, none⟩ = some v1 ∧ W'.cell? ⟨S + 1, 1, none⟩ = some v2 ∧ W'.cell? ⟨S + 1, 2, none⟩ = some v3 ∧ W'.cell? ⟨S + 1, 3, none⟩ = some v4) (W.drewN q).drew := ⟨d0, d1, d2, d3⟩
  refine wp_region_held (S := fun W' : World => W'.cell? ⟨S + 1, 0, none⟩ = some v1 ∧ W'.cell? ⟨S + 1, 1, none⟩ = some v2 ∧ W'.cell? ⟨S + 1, 2, none⟩ = some v3 ∧ W'.cell? ⟨S + 1, 3, none⟩ = some v4) (by kernel_rfl) ?_
  change wpAnyH _ _ _ _ _ _ _ _ (W.drewN q).drew
  iterate 2 (refine wpH rfl rfl ?_; try simp only [Act.put, g1, g2, g3, g4, g5, g6])
  refine wpAnyH_one (i := 2) (by kernel_rfl) rfl (fun K hK => ?_)
  simp only [g4, g5, g6]
  go_simp
  go_at_call 125
  refine htx.mono ?_
  rintro e w3 ⟨rfl, hb3⟩
  have hb3' : Below W.heap.size (W.drewN q) w3 := (below_drew (Below.refl _ _)).trans hb3
  have H3 := Lib.hid (H2.out.next hb3')
  have hcl3 := class08_any w3 B v1 v2 v3 v4 L (textL cs) H3.out.loc (by have := H3.out.sz; have := H3.out.hB; omega)
  clear htx hb3 hb3' d0 d1 d2 d3
  refine hK.out _ _ H3.out.r2.four (fun _ => ?_)
  clear hK hS1
  try simp only [Act.put, g1, g2, g3, g4, g5, g6]
  refine wpAnyH_one (i := 3) (by kernel_rfl) rfl (fun K hK => ?_)
  simp only [g4, g5, g6]
  go_simp
  go_at_call 124
  refine hcl3.mono ?_
  rintro e w4 ⟨hb4, v, rfl, hpr⟩
  have H4 := Lib.hid (H3.out.next hb4)
  have HPR := Lib.hid hpr
  have hS4 : (fun W' : World => W'.cell? ⟨S + 1, 0, none⟩ = some v1 ∧ W'.cell? ⟨S + 1, 1, none⟩ = some v2 ∧ W'.cell? ⟨S + 1, 2, none⟩ = some v3 ∧ W'.cell? ⟨S + 1, 3, none⟩ = some v4) w4 := H4.out.r2.four
  clear hcl3 hb4 hpr
  refine hK.out _ _ hS4 (fun _ => ?_)
  clear hK
  try simp only [Act.put, g1, g2, g3, g4, g5, g6]
  iterate 5 (refine wpH rfl rfl ?_; try simp only [Act.put, g1, g2, g3, g4, g5, g6])
  refine wpAnyH_done (by kernel_rfl) ?_ _
  clear hS4 p0 p1 p2 p3 p4 p5 p6
  obtain ⟨p0, p1, p2, p3, p4, p5, p6⟩ := H4.out.r1.seven
  cases hr : rangesL L.cls (textL cs) with
  | none =>
   have HV1 : Hid (itemB L l s k = .error (31, k)) := Lib.hid (by rw [HV.out, hr])
   have hfl := fail10_any w4 Al n cl k s.no AR s.rs.length cR AT s.ts.length cT 31 k
   simp only [Option.isSome_none]
   clear hr
   go_wp2_with fail
   refine hfl.mono ?_
   rintro e w5 ⟨rfl, hb5⟩
   have H5 := Lib.hid (H4.out.next hb5)
   clear hfl hb5 p0 p1 p2 p3 p4 p5 p6
   obtain ⟨z0, z1, z2, z3, z4, z5, z6⟩ := H5.out.r3.seven
   obtain ⟨y0, y1, y2, y3, y4, y5, y6⟩ := H5.out.r3.fz7
   go_wp2
   obtain ⟨hs9, hb9, hr9, -⟩ := H5.out.end_ H5.out.sw H5.out.lt (.slice Al n cl) (.int .i64 k) (.bool s.no) (.slice AR s.rs.length cR) (.slice AT s.ts.length cT) (.int .i64 31) (.int .i64 k) _ rfl
   obtain ⟨e0, e1, e2, e3, e4, e5, e6⟩ := hr9.seven
   unfold s7 at e0 e1 e2 e3 e4 e5 e6 hs9 hb9
   refine bodyPost_ret (v := .agg #[.slice Al n cl, .int .i64 k, .bool s.no, .slice AR s.rs.length cR, .slice AT s.ts.length cT, .int .i64 31, .int .i64 k]) (by simp [results, Tryz.results76, go_sem, e0, e1, e2, e3, e4, e5, e6]) rfl ?_
   exact ⟨_, rfl, by rw [HSS.out]; exact hb9, s, AR, cR, AT, cT, k, 31, k, rfl, hs9, NewOr.refl _ _, .inr ⟨by omega, HV1.out⟩⟩
  | some rs =>
   have HV1 : Hid (itemB L l s k = .ok (⟨s.no, s.rs ++ rs, s.ts⟩, k')) := Lib.hid (by rw [HV.out, hr])
   have hln := HLN.out rs hr
   have hpr := HPR.out
   rw [hr] at hpr
   simp only [Option.getD_some] at hpr
   obtain ⟨rA, rc, rfl, hsi⟩ := hpr
   have HSI := Lib.hid hsi
   have HO1 : Hid (∀ u ∈ (rs.map prRow).flatten, u.oneCell' = true) := Lib.hid (fun u hu => by
    obtain ⟨x, hx, hux⟩ := List.mem_flatten.1 hu
    obtain ⟨y, _, rfl⟩ := List.mem_map.1 hx
    simp [prRow] at hux
    rcases hux with rfl | rfl <;> rfl)
   have HLE : Hid (s.rs.length + rs.length = (s.rs ++ rs).length) := Lib.hid (by rw [List.length_append])
   simp only [Option.isSome_some]
   clear hr hsi
   go_wp2_with (first | (at_builtin; refine wpList_append_si rfl _ _ 31 rfl w4.heap.size 46 i0 (.agg #[.int .i32 0, .int .i32 0]) 2 8 Tryz.underlying31 hi hz0 hz1 hz2 rfl (by decide) (.slice none 0 0) 0 [] rfl (World.ownsRow_nil _ _ _ _) w4.heap.size AR s.rs.length cR (s.rs.map prRow) rfl H4.out.sw.r HON.out (by unfold maxLen; omega) (by omega) (Nat.le_refl _) ?_; intro v5 w5 hown hgr hat; rw [Nat.zero_add, List.nil_append, pr_flat] at hown; obtain ⟨A5, c5, rfl⟩ := row_form hown; have hb5 : Below w4.heap.size w4 w5 := (Below.refl _ _).grown hgr (Nat.le_refl _) (by intro b hb; cases hb); have HO5 := Lib.hid hown; have HB5 := Lib.hid hb5; clear hown hgr hat hb5) | (at_builtin; refine wpList_append_si rfl _ _ 31 rfl w4.heap.size 46 i0 (.agg #[.int .i32 0, .int .i32 0]) 2 8 Tryz.underlying31 hi hz0 hz1 hz2 rfl (by decide) (.slice A5 s.rs.length c5) s.rs.length (prsC s.rs) rfl HO5.out B rA rs.length rc (rs.map prRow) rfl (HSI.out.on HB5.out (by have := H4.out.sz; have := H4.out.hB; omega)) HO1.out (by unfold maxLen; omega) (by omega) HB5.out.size ?_; intro v6 w6 hown hgr hat; rw [pr_flat, ← prsC_append] at hown; obtain ⟨A6, c6, rfl⟩ := row_form hown; have hb6 : Below w4.heap.size w4 w6 := HB5.out.trans ((Below.refl _ _).grown hgr HB5.out.size (fun b hb => (HO5.out.lt b hb).1)); have HO6 := Lib.hid hown; have HB6 := Lib.hid hb6; have H6 := Lib.hid (H4.out.next hb6); clear hown hgr hat hb6 p0 p1 p2 p3 p4 p5 p6; obtain ⟨p0, p1, p2, p3, p4, p5, p6⟩ := H6.out.r1.seven; have f1 := H6.out.r1.frozen 1; have f3 := H6.out.r1.frozen 3; obtain ⟨z0, z1, z2, z3, z4, z5, z6⟩ := H6.out.r3.seven; obtain ⟨y0, y1, y2, y3, y4, y5, y6⟩ := H6.out.r3.fz7))
   have H7 := H6.out.setR k' c6 HLE.out (H4.out.sw.ofR HB6.out HLE.out HO6.out)
   obtain ⟨hs9, hb9, hr9, -⟩ := H7.end_ H7.sw H7.lt (.slice Al n cl) (.int .i64 k') (.bool s.no) (.slice A6 (s.rs.length + rs.length) c6) (.slice AT s.ts.length cT) (.int .i64 0) (.int .i64 0) _ rfl
   obtain ⟨e0, e1, e2, e3, e4, e5, e6⟩ := hr9.seven
   unfold s7 at e0 e1 e2 e3 e4 e5 e6 hs9 hb9
   refine bodyPost_ret (v := .agg #[.slice Al n cl, .int .i64 k', .bool s.no, .slice A6 (s.rs.length + rs.length) c6, .slice AT s.ts.length cT, .int .i64 0, .int .i64 0]) (by simp [results, Tryz.results76, go_sem, e0, e1, e2, e3, e4, e5, e6]) rfl ?_
   exact ⟨_, rfl, by rw [HSS.out]; exact hb9, ⟨s.no, s.rs ++ rs, s.ts⟩, A6, c6, AT, cT, k', 0, 0, by rw [HLE.out]; rfl, hs9, NewOr.refl _ _, .inl ⟨rfl, rfl, HV1.out⟩⟩
end Go.Proofs.YthgiikhkcpbpfaaGreatDoor.C
namespace Go.Proofs.YthgiikhkcpbpfaaGreatDoor.C
open Go.RowKit

theorem RowsQ.up {w : World} {B B' S : Nat} {A : Option Addr} {rs : List (List Int)} (h : RowsQ w B S A rs) (hB : B ≤ B') : RowsQ w B' S A rs := fun h0 => by
 obtain ⟨ad, e, h1, h2, h3⟩ := h h0
 refine ⟨ad, e, h1, h2, fun i r hr => ?_⟩
 obtain ⟨a, c, k1, k2, k3⟩ := h3 i r hr
 exact ⟨a, c, k1, k2.more hB, k3⟩
def AlQTold (w w' : World) (B0 : Nat) (rs : List (List Int)) (e : Ending) : Prop := Below w.heap.size w w' ∧ ∃ A c, e = .returned (.slice A rs.length c) ∧ RowsQ w' B0 (w.heap.size + 1) A rs
def RowsN (w : World) (Q : Nat) (A : Option Addr) (rs : List (List Int)) : Prop := ∀ (i : Nat) (r : List Int), rs[i]? = some r → ∃ (ad : Addr) (a : Option Addr) (c : Nat), A = some ad ∧ ad.block ≠ Q ∧ ad.block < w.heap.size ∧ w.cell? (ad.add i) = some (.slice a r.length c) ∧ RI .i32 w w.heap.size a r.length r ∧ r.length ≤ maxLen
theorem RowsQ.toN {w : World} {B S Q : Nat} {A : Option Addr} {rs : List (List Int)} (h : RowsQ w B S A rs) (hB : B ≤ w.heap.size) (hQ : Q < S) : RowsN w Q A rs := fun i r hr => by
 obtain ⟨ad, e, h1, h2, h3⟩ := h (Nat.lt_of_le_of_lt (Nat.zero_le i) (List.getElem?_eq_some_iff.1 hr).1)
 obtain ⟨a, c, k1, k2, k3⟩ := h3 i r hr
 exact ⟨ad, a, c, e, by omega, h2, k1, k2.more hB, k3⟩
theorem RowsN.next {w w' : World} {Q : Nat} {A : Option Addr} {rs : List (List Int)} (h : RowsN w Q A rs) (hb : Below w.heap.size w w') : RowsN w' Q A rs := fun i r hr => by
 obtain ⟨ad, a, c, e, h1, h2, k1, k2, k3⟩ := h i r hr
 exact ⟨ad, a, c, e, h1, Nat.lt_of_lt_of_le h2 hb.size, below_cell hb k1, (k2.on hb (Nat.le_refl _)).more hb.size, k3⟩
theorem RowsN.box {w w' : World} {Q : Nat} {A : Option Addr} {rs : List (List Int)} (h : RowsN w Q A rs) (hf : Fr w w' (· = Q)) (hn : No32 w Q) : RowsN w' Q A rs := fun i r hr => by
 obtain ⟨ad, a, c, e, h1, h2, k1, k2, k3⟩ := h i r hr
 exact ⟨ad, a, c, e, h1, Nat.lt_of_lt_of_le h2 hf.size, (World.cell?_of_block (hf.block _ (by rw [block_of_add]; exact h2) (by rw [block_of_add]; exact h1))).trans k1, (k2.box hf hn (Nat.le_refl _)).more hf.size, k3⟩
set_option maxRecDepth 100000 in
set_option maxHeartbeats 8000000 in
theorem alike08Q_any (w : World) (B Ba B0 : Nat) (v1 v2 v3 v4 : Value) (l : Loc) (Aa : Option Addr) (ma ca : Nat) (xs : List Int) (h : LocR w B v1 v2 v3 v4 l) (hB : B ≤ w.heap.size) (h5 : l.ord.length ≤ 500) (hx : RI .i32 w Ba Aa ma xs) (hBa : Ba ≤ w.heap.size) (hm : ma ≤ maxLen) (hB0 : B ≤ B0) (hBa0 : Ba ≤ B0) (_h00 : B0 ≤ w.heap.size) :
  Calls Tryz.prog 127 #[.agg #[v1, v2, v3, v4], .slice Aa ma ca] w fun e w' => AlQTold w w' B0 (alikeL l.ord xs) e := by
 obtain ⟨W, hW⟩ : ∃ W, W = w.alloc (.cells #[v1, v2, v3, v4] 27) := ⟨_, rfl⟩
 have hb : Below w.heap.size w W := by rw [hW]; exact (Below.refl _ _).alloc (Nat.le_refl _) _
 have hrow : Rw W w.heap.size 27 #[v1, v2, v3, v4] := by rw [hW]; exact heap_alloc_new w _
 have hsW : W.heap.size = w.heap.size + 1 := by rw [hW]; simp
 obtain ⟨-, -, -, r4, -, -, -⟩ := h.on hb hB
 obtain ⟨A, c, xx, rfl, -⟩ := id r4
 have p3 : W.cell? ⟨w.heap.size, 3, none⟩ = some (.slice A l.ord.length c) := hrow.cell rfl
 have hpa := place07_any W B Ba _ l.ord Aa ma ca xs r4 (hx.on hb hBa) h5 hm
 obtain ⟨i0, hi, hz0, hz1, hz2⟩ := info_parts infoRowC
 have HR4 := Lib.hid r4
 have HB := Lib.hid hb
 have HSW := Lib.hid hsW
 have HX := Lib.hid (hx.on hb hBa)
 clear r4 hb hrow h hx hsW
 have HW := Lib.hid hW
 clear hW
 have hW := HW.out
 subst hW
 go_enter Tryz.func127, Tryz.ntmps127
 go_wp2_with fail
 refine hpa.mono ?_
 rintro e w2 ⟨rfl, q1, rfl⟩
 clear hpa
 rcases place_is (o := l.ord) (cs := xs) with ⟨k, x, he, hcx, hp⟩ | ⟨hno, hp⟩
 ·have hal : alikeL l.ord xs = (placesL l.ord x.same).map (cellsJ l.ord) := by
   unfold alikeL
   rw [hp]
   simp only [Int.toNat_natCast, he]
   exact if_neg (by omega)
  have HAL := Lib.hid hal
  have HKE := Lib.hid he
  obtain ⟨s, hs⟩ : ∃ s, s = x.same := ⟨_, rfl⟩
  have HS := Lib.hid hs
  have hkl := (List.getElem?_eq_some_iff.1 he).1
  have k0 : ¬ (k : Int) < 0 := by omega
  have k1 : (k : Int) < (l.ord.length : Int) := by omega
  have k2 : (0 : Int) ≤ (k : Int) := by omega
  rw [hp]
  clear he hcx hp hal hs
  go_wp2
  go_loopw [6, 7] (fun v jv wr => ∃ m : Nat, m ≤ l.ord.length ∧ jv = .int .i64 (m : Int) ∧ Hid (∃ vs, wr.ownsRow (w.heap.size + 1) 39 1 v (plK l.ord m s).length vs ∧ RowsV wr B vs ((plK l.ord m s).map (cellsJ l.ord)) ∧ Below (w.heap.size + 1) (w.alloc (.cells #[v1, v2, v3, .slice A l.ord.length c] 27)) wr)) (fun _ jv _ => l.ord.length - (intOf jv).toNat)
  case atStart => exact ⟨0, Nat.zero_le _, rfl, Lib.hid ⟨[], World.ownsRow_nil _ _ _ _, ⟨rfl, fun i r u h => by simp [plK] at h⟩, below_drewN (Below.refl _ _) _⟩⟩
  case round =>
   obtain ⟨m, hm', rfl, HV⟩ := hrel
   by_cases hlt : m < l.ord.length
   ·obtain ⟨vs, hown, hrv, hbw⟩ := HV.out
    obtain ⟨e, he⟩ : ∃ e, l.ord[m]? = some e := ⟨_, List.getElem?_eq_getElem hlt⟩
    have hr4 := HR4.out.on hbw (by omega)
    have hcl : e.cells.length ≤ maxLen := by
     obtain ⟨_, _, _, _, _, hel⟩ := id hr4
     obtain ⟨_, _, _, _, _, qq⟩ := hel _ e he
     exact qq
    obtain ⟨ad, cx, Ac, cc, hv, hbl, -, hc1, hc2, hri⟩ := elmR_at hr4 he
    injection hv with hA _ hcc
    subst hA hcc
    obtain ⟨ad', cx', _, _, hv', -, -, -, hk2, -⟩ := elmR_at hr4 HKE.out
    injection hv' with hA' _ hcc'
    injection hA' with hA'
    subst hA' hcc'
    rw [← HS.out] at hk2
    have p3' : wr.cell? ⟨w.heap.size, 3, none⟩ = some (.slice (some ad) l.ord.length c) := (hbw.cell (p := ⟨w.heap.size, 3, none⟩) (Nat.lt_succ_self _)).trans p3
    have hsz := hbw.size
    have i0' : (0 : Int) ≤ (m : Int) := by omega
    have i1' : (m : Int) < (l.ord.length : Int) := by omega
    have hple := plK_le l.ord m s
    have HOWN := Lib.hid hown
    have HRV := Lib.hid hrv
    have HBW := Lib.hid hbw
    have HE := Lib.hid he
    have HRI := Lib.hid hri
    have HCL := Lib.hid hcl
    have HSZ := Lib.hid hsz
    obtain ⟨nm, cl, sm⟩ := e
    simp only at hc1 hc2
    clear hown hrv hbw he hri hr4 hcl hsz hbl
    by_cases e : sm = s
    ·have e1 : (sm == s) = true := by simpa using e
     have hpn : plK l.ord (m + 1) s = plK l.ord m s ++ [m] := by rw [plK_next HE.out, if_pos e]
     have HPN := Lib.hid hpn
     clear e hpn
     go_wp2
     refine wp_region_held (S := fun W' : World => W'.cell? ⟨w.heap.size, 3, none⟩ = some (.slice (some ad) l.ord.length c) ∧ W'.cell? ⟨(ad.add (m * 3)).block, (ad.add (m * 3)).off + 2, none⟩ = some (.int .i64 sm) ∧ W'.cell? ⟨(ad.add (k * 3)).block, (ad.add (k * 3)).off + 2, none⟩ = some (.int .i64 s)) (by kernel_rfl) ?_
     change wpAnyH _ _ _ _ _ _ _ _ wr.drew
     have hS1 : (fun W' : World => W'.cell? ⟨w.heap.size, 3, none⟩ = some (.slice (some ad) l.ord.length c) ∧ W'.cell? ⟨(ad.add (m * 3)).block, (ad.add (m * 3)).off + 2, none⟩ = some (.int .i64 sm) ∧ W'.cell? ⟨(ad.add (k * 3)).block, (ad.add (k * 3)).off + 2, none⟩ = some (.int .i64 s)) wr.drew := ⟨p3', hc2, hk2⟩
     iterate 13 (refine wpH rfl rfl ?_; try simp only [Act.put, g1, g2, g3, g4, g5, g6])
     refine wpAnyH_done (by kernel_rfl) ?_ _
     have q3 : wr.drew.cell? ⟨w.heap.size, 3, none⟩ = some (.slice (some ad) l.ord.length c) := p3'
     have q1 : wr.drew.cell? ⟨(ad.add (m * 3)).block, (ad.add (m * 3)).off + 1, none⟩ = some (.slice Ac cl.length cc) := hc1
     clear hS1 p3' hc1 hc2 hk2
     go_wp2_with (at_builtin; (refine wpList_append_own _ rfl _ _ 32 rfl (w.heap.size + 1) 39 i0 (.slice none 0 0) 1 24 Tryz.underlying32 hi hz0 hz1 hz2 rfl (by decide) _ (plK l.ord m s).length vs rfl (HOWN.out.drew.alloc _) _ 1 1 [.slice Ac cl.length cc] rfl rfl (cell_one_new _ _ _) (by intro u hu; simp at hu; subst hu; rfl) (by unfold maxLen; omega) (by omega) (by simp; have := HSZ.out; have := HSW.out; omega) ?_); intro v' w3 hown' hgrow _)
     have HEND : Hid (∃ vs, w3.ownsRow (w.heap.size + 1) 39 1 v' (plK l.ord (m + 1) s).length vs ∧ RowsV w3 B vs ((plK l.ord (m + 1) s).map (cellsJ l.ord)) ∧ Below (w.heap.size + 1) (w.alloc (.cells #[v1, v2, v3, .slice (some ad) l.ord.length c] 27)) w3) := Lib.hid (by
      have hb3 : Below (w.heap.size + 1) wr w3 := ((below_drew (Below.refl _ _)).alloc (by have := HSZ.out; have := HSW.out; show _ ≤ wr.heap.size; omega) _).grown hgrow (by simp; have := HSZ.out; have := HSW.out; omega) (fun b hb => (HOWN.out.lt b hb).1)
      have hce : cellsJ l.ord m = cl := by unfold cellsJ; rw [HE.out]; rfl
      refine ⟨_, by rw [HPN.out, List.length_append]; exact hown', ?_, HBW.out.trans hb3⟩
      rw [HPN.out, List.map_append, List.map_cons, List.map_nil, hce]
      exact (HRV.out.on hb3 (by omega)).snoc (HRI.out.on hb3 (by omega)) HCL.out)
     clear hown' hgrow
     go_roundw
     case rel => exact ⟨m + 1, by omega, by go_num, HEND⟩
     case measure => simp [intOf]; omega
    ·have e1 : (sm == s) = false := by simpa using e
     have hpn : plK l.ord (m + 1) s = plK l.ord m s := by rw [plK_next HE.out, if_neg e, List.append_nil]
     have HEND : Hid (∃ vs, wr.drew.ownsRow (w.heap.size + 1) 39 1 _ (plK l.ord (m + 1) s).length vs ∧ RowsV wr.drew B vs ((plK l.ord (m + 1) s).map (cellsJ l.ord)) ∧ Below (w.heap.size + 1) (w.alloc (.cells #[v1, v2, v3, .slice (some ad) l.ord.length c] 27)) wr.drew) := Lib.hid ⟨vs, by rw [hpn]; exact HOWN.out.drew, by rw [hpn]; exact HRV.out, HBW.out.drew⟩
     clear e hpn
     go_wp2
     refine wp_region_held (S := fun W' : World => W'.cell? ⟨w.heap.size, 3, none⟩ = some (.slice (some ad) l.ord.length c) ∧ W'.cell? ⟨(ad.add (m * 3)).block, (ad.add (m * 3)).off + 2, none⟩ = some (.int .i64 sm) ∧ W'.cell? ⟨(ad.add (k * 3)).block, (ad.add (k * 3)).off + 2, none⟩ = some (.int .i64 s)) (by kernel_rfl) ?_
     change wpAnyH _ _ _ _ _ _ _ _ wr.drew
     have hS1 : (fun W' : World => W'.cell? ⟨w.heap.size, 3, none⟩ = some (.slice (some ad) l.ord.length c) ∧ W'.cell? ⟨(ad.add (m * 3)).block, (ad.add (m * 3)).off + 2, none⟩ = some (.int .i64 sm) ∧ W'.cell? ⟨(ad.add (k * 3)).block, (ad.add (k * 3)).off + 2, none⟩ = some (.int .i64 s)) wr.drew := ⟨p3', hc2, hk2⟩
     iterate 13 (refine wpH rfl rfl ?_; try simp only [Act.put, g1, g2, g3, g4, g5, g6])
     refine wpAnyH_done (by kernel_rfl) ?_ _
     clear hS1 p3' hc1 hc2 hk2
     go_wp2
     go_roundw
     case rel => exact ⟨m + 1, by omega, by go_num, HEND⟩
     case measure => simp [intOf]; omega
   ·obtain rfl : m = l.ord.length := by omega
    obtain ⟨vs, hown, hrv, hbw⟩ := HV.out
    obtain ⟨Ae, ce, hve, hre⟩ := hrv.readsQ (by rw [List.length_map]) hown
    subst hve
    rw [plK_all] at hre
    have hlm : ((plK l.ord l.ord.length s).map (cellsJ l.ord)).length = (alikeL l.ord xs).length := by rw [HAL.out, ← HS.out, plK_all]
    have HF : Hid (AlQTold w wr B0 (alikeL l.ord xs) (.returned (.slice Ae ((plK l.ord l.ord.length s).map (cellsJ l.ord)).length ce))) := Lib.hid ⟨HB.out.trans (hbw.mono (by omega)), Ae, ce, by rw [← hlm], by rw [HAL.out, ← HS.out]; exact hre.up hB0⟩
    have p3' : wr.cell? ⟨w.heap.size, 3, none⟩ = some (.slice A l.ord.length c) := (hbw.cell (p := ⟨w.heap.size, 3, none⟩) (Nat.lt_succ_self _)).trans p3
    clear hown hrv hbw hre hlm
    go_wp2
    go_ret
    exact HF.out
 ·have hal : alikeL l.ord xs = [xs] := by
   unfold alikeL
   rw [hp]
   split
   ·exact if_pos (by omega)
   ·rfl
  have HAL := Lib.hid hal
  have hlx : xs.length = ma := HX.out.len
  rw [hp]
  clear hno hp hal p3
  obtain ⟨w3, hw3⟩ : ∃ w3, w3 = ((w.alloc (.cells #[v1, v2, v3, .slice A l.ord.length c] 27)).drewN q1).alloc (.cells #[.slice Aa ma ca] 39) := ⟨_, rfl⟩
  have hb3 : Below (w.heap.size + 1) (w.alloc (.cells #[v1, v2, v3, .slice A l.ord.length c] 27)) w3 := by rw [hw3]; exact (below_drewN (Below.refl _ _) q1).alloc (by have := HSW.out; show _ ≤ (w.alloc _).heap.size; omega) _
  have hF : AlQTold w w3 B0 (alikeL l.ord xs) (.returned (.slice (some ⟨w.heap.size + 1, 0, none⟩) 1 1)) := by
   rw [HAL.out]
   refine ⟨HB.out.trans (hb3.mono (by omega)), some ⟨w.heap.size + 1, 0, none⟩, 1, rfl, fun _ => ⟨_, rfl, Nat.le_refl _, by rw [hw3]; simp, fun i r hi => ?_⟩⟩
   rcases i with _ | i
   ·obtain rfl : xs = r := by simpa using hi
    rw [hlx]
    refine ⟨Aa, ca, ?_, (HX.out.on hb3 (by omega)).more hBa0, hm⟩
    rw [hw3, Addr.add_zero']
    have := World.cell?_alloc_new ((w.alloc (.cells #[v1, v2, v3, .slice A l.ord.length c] 27)).drewN q1) #[.slice Aa ma ca] 39 0
    rw [show ((w.alloc (.cells #[v1, v2, v3, .slice A l.ord.length c] 27)).drewN q1).heap.size = w.heap.size + 1 from HSW.out] at this
    exact this
   ·simp at hi
  have HF := Lib.hid hF
  clear hF hb3
  subst hw3
  go_wp2
  go_ret
  exact HF.out
end Go.Proofs.YthgiikhkcpbpfaaGreatDoor.C
namespace Go.Proofs.YthgiikhkcpbpfaaGreatDoor.C
open Go.RowKit

theorem namedC_len {L : Loc} {cs cs' : List Int} {b : Nat} (h : namedC L cs b = .ok cs') (hR : rightL L = true) (hl : cs.length ≤ 1000) : cs'.length ≤ 1000 := by
 unfold namedC at h
 split at h
 ·injection h with h
  subst h
  have := namedT_len hR (textL cs)
  omega
 ·split at h
  ·cases h
  ·injection h with h
   subst h
   exact hl
set_option maxRecDepth 100000 in
set_option maxHeartbeats 8000000 in
theorem alike10_any (w : World) (B : Nat) (v1 v2 v3 v4 : Value) (L : Loc) (Al : Option Addr) (n cl k : Nat) (l : List Int) (s : BSet) (AR : Option Addr) (cR : Nat) (AT : Option Addr) (cT : Nat)
  (hL : LocR w B v1 v2 v3 v4 L) (hB : B ≤ w.heap.size) (hR : rightL L = true) (hs : SetW w AR AT s) (hl : RI .i32 w B Al n l) (hn : n ≤ 1000) (hcl : n ≤ cl) (h1 : s.rs.length ≤ 1000000000) (h2 : s.ts.length ≤ 1000000000) (hat0 : atS l k [91, 58] = false) (hat : atS l k [91, 61] = true) :
  Calls Tryz.prog 77 #[rvV Al n cl k s.no AR s.rs.length cR AT s.ts.length cT 0 0, .agg #[v1, v2, v3, v4]] w fun e w' => ∃ v, e = .returned v ∧ RTold w w' Al n cl AT (itemB L l s k) v := by
 have h5 := ord500 hR
 unfold rvV
 obtain ⟨S, hS⟩ : ∃ S, w.heap.size = S := ⟨_, rfl⟩
 obtain ⟨W, hW⟩ : ∃ W, W = ((w.alloc (.cells (rvC Al n cl k s AR cR AT cT) 144)).alloc (.cells #[v1, v2, v3, v4] 27)).alloc (.cells #[.slice none 0 0, .int .i64 0, .bool false, .slice none 0 0, .slice none 0 0, .int .i64 0, .int .i64 0] 144) := ⟨_, rfl⟩
 have H := Lib.hid (RSt.start hS hW (by omega) hs hl hL)
 have HSS := Lib.hid hS
 have HLEN := Lib.hid hl.len
 have HE := Lib.hid (item_alike (L := L) (s := s) hat0 hat)
 have hk2 : k + 2 ≤ n := by
  have h1 := atS_len hat (by simp)
  have h2 := hl.len
  simp at h1
  omega
 clear hL hs hl hat0 hat
 have hin := inner10_any W B Al n cl l (k + 2) ((k : Int) + 2) 61 H.out.l (by have := H.out.sz; have := H.out.hB; omega) hcl hk2 (by omega) (by omega)
 unfold InTold at hin
 go_enter Tryz.func77, Tryz.ntmps77
 unfold rvC at hW
 go_upto_region 1 with fail
 rw [← hW]
 clear hW hS
 obtain ⟨p0, p1, p2, p3, p4, p5, p6⟩ := H.out.r1.seven
 go_wp2_with fail
 refine hin.mono ?_
 clear hin
 cases hu : upToL l (k + 2) 61 with
 | error er =>
  rintro e w2 ⟨⟨q, rfl⟩, A2, n2, c2, i2, rfl⟩
  obtain rfl := upToL_err hu
  have HV : Hid (itemB L l s k = .error (30, n)) := Lib.hid (by rw [HE.out]; unfold namedB; rw [hu]; simp only [HLEN.out])
  have H2 := Lib.hid (H.out.drewN q)
  have hfl := fail10_any (W.drewN q) Al n cl k s.no AR s.rs.length cR AT s.ts.length cT 30 n
  clear hu
  go_wp2_with fail
  refine hfl.mono ?_
  rintro e w3 ⟨rfl, hb3⟩
  have H3 := Lib.hid (H2.out.next hb3)
  clear hfl hb3 p0 p1 p2 p3 p4 p5 p6
  obtain ⟨z0, z1, z2, z3, z4, z5, z6⟩ := H3.out.r3.seven
  obtain ⟨y0, y1, y2, y3, y4, y5, y6⟩ := H3.out.r3.fz7
  go_wp2
  obtain ⟨hs9, hb9, hr9, -⟩ := H3.out.end_ H3.out.sw H3.out.lt (.slice Al n cl) (.int .i64 k) (.bool s.no) (.slice AR s.rs.length cR) (.slice AT s.ts.length cT) (.int .i64 30) (.int .i64 n) _ rfl
  obtain ⟨e0, e1, e2, e3, e4, e5, e6⟩ := hr9.seven
  unfold s7 at e0 e1 e2 e3 e4 e5 e6 hs9 hb9
  refine bodyPost_ret (v := .agg #[.slice Al n cl, .int .i64 k, .bool s.no, .slice AR s.rs.length cR, .slice AT s.ts.length cT, .int .i64 30, .int .i64 n]) (by simp [results, Tryz.results77, go_sem, e0, e1, e2, e3, e4, e5, e6]) rfl ?_
  exact ⟨_, rfl, by rw [HSS.out]; exact hb9, s, AR, cR, AT, cT, k, 30, n, rfl, hs9, NewOr.refl _ _, .inr ⟨by omega, HV.out⟩⟩
 | ok pp =>
  obtain ⟨cs, k'⟩ := pp
  rintro e w2 ⟨⟨q, rfl⟩, A2, c2, rfl, hri⟩
  have HRI := Lib.hid hri
  have HU2 := Lib.hid hu
  obtain ⟨hk3, hk4, -, hk5⟩ := upToL_ok hu
  have hcn : cs.length ≤ 1000 := by have := HLEN.out; omega
  clear hri hu hk5
  by_cases h0 : cs = []
  ·subst h0
   have HV : Hid (itemB L l s k = .error (30, n)) := Lib.hid (by rw [HE.out]; unfold namedB; rw [HU2.out]; simp only [if_pos, HLEN.out])
   simp only [List.length_nil]
   have H2 := Lib.hid (H.out.drewN q)
   have hfl := fail10_any (W.drewN q) Al n cl k s.no AR s.rs.length cR AT s.ts.length cT 30 n
   go_wp2_with fail
   refine hfl.mono ?_
   rintro e w3 ⟨rfl, hb3⟩
   have H3 := Lib.hid (H2.out.next hb3)
   clear hfl hb3 p0 p1 p2 p3 p4 p5 p6
   obtain ⟨z0, z1, z2, z3, z4, z5, z6⟩ := H3.out.r3.seven
   obtain ⟨y0, y1, y2, y3, y4, y5, y6⟩ := H3.out.r3.fz7
   go_wp2
   obtain ⟨hs9, hb9, hr9, -⟩ := H3.out.end_ H3.out.sw H3.out.lt (.slice Al n cl) (.int .i64 k) (.bool s.no) (.slice AR s.rs.length cR) (.slice AT s.ts.length cT) (.int .i64 30) (.int .i64 n) _ rfl
   obtain ⟨e0, e1, e2, e3, e4, e5, e6⟩ := hr9.seven
   unfold s7 at e0 e1 e2 e3 e4 e5 e6 hs9 hb9
   refine bodyPost_ret (v := .agg #[.slice Al n cl, .int .i64 k, .bool s.no, .slice AR s.rs.length cR, .slice AT s.ts.length cT, .int .i64 30, .int .i64 n]) (by simp [results, Tryz.results77, go_sem, e0, e1, e2, e3, e4, e5, e6]) rfl ?_
   exact ⟨_, rfl, by rw [HSS.out]; exact hb9, s, AR, cR, AT, cT, k, 30, n, rfl, hs9, NewOr.refl _ _, .inr ⟨by omega, HV.out⟩⟩

  ·have HV : Hid (itemB L l s k = match namedC L cs k with | .error e => .error e | .ok c' => .ok (putL s (alikeL L.ord c'), k')) := Lib.hid (by
    rw [HE.out, namedB_C HU2.out h0]
    cases namedC L cs k <;> rfl)
   have hnl : ((cs.length : Int) == 0) = false := by
    have := List.length_pos_iff.2 h0
    simp
    omega
   have H2 := Lib.hid (H.out.drewN q)
   have hnd := named10_any (W.drewN q) B B v1 v2 v3 v4 L Al n cl k s AR cR AT cT A2 cs.length c2 cs k k H2.out.loc (by have := H2.out.sz; have := H2.out.hB; omega) h5 H2.out.sw HRI.out (by have := H2.out.sz; have := H2.out.hB; omega) hcn rfl
   unfold rvV at hnd
   obtain ⟨d0, d1, d2, d3⟩ := (show Rw (W.drewN q) (S + 1) 27 _ from H.out.r2).four
   obtain ⟨d0, d1, d2, d3⟩ := H.out.r2.four
   go_wp2_with fail
   refine hnd.mono ?_
   rintro e w4 ⟨hb4, A', c', cs', E, P, rfl, hri4, hs4, hcase⟩
   have H4 := Lib.hid (H2.out.next hb4)
   have HX4 := Lib.hid (And.intro hri4 hs4)
   clear hnd hb4 hri4 hs4 p0 p1 p2 p3 p4 p5 p6 d0 d1 d2 d3 hnl h0
   try simp only [rvV]
   go_upto_region 6 with fail
   refine wp_nameW fun w5 hw5 => ?_
   obtain ⟨Q, hQ⟩ : ∃ Q, Q = w4.heap.size := ⟨_, rfl⟩
   rw [← hQ]
   rcases hcase with ⟨hE0, hP0, hc⟩ | ⟨hE0, hc⟩
   ·subst hE0 hP0
    have HV2 : Hid (itemB L l s k = .ok (putL s (alikeL L.ord cs'), k')) := Lib.hid (by rw [HV.out, hc])
    have hcl' := namedC_len hc hR hcn
    have H5 := Lib.hid (H4.out.box k cR cT HX4.out.2 H4.out.lt w5 hw5)
    rw [← hQ] at H5
    have hb45 : Below w4.heap.size w4 w5 := by rw [hw5]; exact below_new _ _
    have hri5 := (HX4.out.1.on hb45 (Nat.le_refl _)).more hb45.size
    have hal := alike08Q_any w5 B w5.heap.size w5.heap.size v1 v2 v3 v4 L A' cs'.length c' cs' H5.out.loc (by have := H5.out.sz; have := H5.out.hB; omega) h5 hri5 (Nat.le_refl _) (by unfold maxLen; omega) (by have := H5.out.sz; have := H5.out.hB; omega) (Nat.le_refl _) (Nat.le_refl _)
    have hrl := alikeL_len (cs := cs') h5
    obtain ⟨rows, hrows⟩ : ∃ rows, rows = alikeL L.ord cs' := ⟨_, rfl⟩
    rw [← hrows] at HV2 hal hrl
    clear hc hw5 hQ hb45 hri5 hcl' hrows
    obtain ⟨p0, p1, p2, p3, p4, p5, p6⟩ := H5.out.r1.seven
    obtain ⟨d0, d1, d2, d3⟩ := H5.out.r2.four
    go_wp2_with fail
    refine hal.mono ?_
    rintro e w6 ⟨hb6, A6, c6, rfl, hq6⟩
    have H6 := Lib.hid (H5.out.next hb6)
    have HN6 := Lib.hid (hq6.toN (Q := Q) hb6.size (by have := H5.out.qz; omega))
    clear hal hb6 hq6 p0 p1 p2 p3 p4 p5 p6 d0 d1 d2 d3
    go_wp2
    go_loopw [12] (fun iv wr => ∃ i : Nat, i ≤ rows.length ∧ iv = .int .i64 (i : Int) ∧ Hid (∃ AR' cR' AT' cT', RSt w S Q B Al n cl l v1 v2 v3 v4 L k (putL s (rows.take i)) AR' cR' AT' cT' wr ∧ RowsN wr Q A6 rows ∧ NewOr w AT AT')) (fun iv _ => rows.length - (intOf iv).toNat)
    case atStart => exact ⟨0, Nat.zero_le _, rfl, Lib.hid ⟨AR, cR, AT, cT, H6.out, HN6.out, NewOr.refl _ _⟩⟩
    case round =>
     obtain ⟨i, hi, rfl, HQ⟩ := hrel
     obtain ⟨AR1, cR1, AT1, cT1, hst, hrn, hno⟩ := HQ.out
     have HST := Lib.hid hst
     have HRN := Lib.hid hrn
     have HNO := Lib.hid hno
     by_cases hlt : i < rows.length
     ·obtain ⟨r, hr⟩ : ∃ r, rows[i]? = some r := ⟨_, List.getElem?_eq_getElem hlt⟩
      obtain ⟨ad, a, c, rfl, hne, -, hca, hria, hrm⟩ := hrn i r hr
      have hpl := putL_len (rows.take i) s
      have htk : (rows.take i).length ≤ i := List.length_take_le _ _
      have hps : putL s (rows.take (i + 1)) = put1 (putL s (rows.take i)) r := by rw [take_snoc hr, putL_snoc]
      obtain ⟨s1, hs1⟩ : ∃ s1, s1 = putL s (rows.take i) := ⟨_, rfl⟩
      rw [← hs1] at hst HST hpl hps
      have HPS := Lib.hid hps
      have hput := put10_any wr.drew s1 AR1 AT1 a cR1 cT1 c wr.heap.size r.length r (hst.sw.next (below_drew (Below.refl _ _))) hria (Nat.le_refl _) (by omega) (by omega) hrm
      have i0 : (i : Int) < (rows.length : Int) := by omega
      have i1 : (0 : Int) ≤ (i : Int) := by omega
      obtain ⟨-, -, p2, p3, p4, -, -⟩ := hst.r1.seven
      have f2 := hst.r1.frozen 2
      clear hst hrn hno hr hria hps hs1 hpl htk
      go_upto_region 12 with fail
      have hS1 : (fun W' : World => W'.cell? ⟨Q, 2, none⟩ = some (.bool s1.no) ∧ W'.cell? ⟨Q, 3, none⟩ = some (.slice AR1 s1.rs.length cR1) ∧ W'.cell? ⟨Q, 4, none⟩ = some (.slice AT1 s1.ts.length cT1) ∧ W'.cell? (ad.add i) = some (.slice a r.length c)) wr.drew := ⟨p2, p3, p4, hca⟩
      refine wp_region_E (S := fun W' : World => W'.cell? ⟨Q, 2, none⟩ = some (.bool s1.no) ∧ W'.cell? ⟨Q, 3, none⟩ = some (.slice AR1 s1.rs.length cR1) ∧ W'.cell? ⟨Q, 4, none⟩ = some (.slice AT1 s1.ts.length cT1) ∧ W'.cell? (ad.add i) = some (.slice a r.length c)) (L := 8) (by kernel_rfl) ?_
      iterate 6 (refine wpE rfl rfl ?_; try simp only [Act.put, g1, g2, g3, g4, g5, g6])
      refine wpAnyE_one (i := 6) (by kernel_rfl) rfl (fun K hK => ?_)
      simp only [g4, g5, g6]
      go_simp
      refine hput.mono ?_
      rintro e w7 ⟨hb7, AR2, cR2, AT2, cT2, rfl, hs2, hn2⟩
      have hb7' : Below wr.heap.size wr w7 := (below_drew (Below.refl _ _)).trans hb7
      have H7 := Lib.hid (HST.out.next hb7')
      have HN7 := Lib.hid (HRN.out.next hb7')
      have HX7 := Lib.hid (And.intro hs2 (show NewOr wr AT1 AT2 from hn2))
      have hS7 : (fun W' : World => W'.cell? ⟨Q, 2, none⟩ = some (.bool s1.no) ∧ W'.cell? ⟨Q, 3, none⟩ = some (.slice AR1 s1.rs.length cR1) ∧ W'.cell? ⟨Q, 4, none⟩ = some (.slice AT1 s1.ts.length cT1) ∧ W'.cell? (ad.add i) = some (.slice a r.length c)) w7 := ⟨below_cell hb7' p2, below_cell hb7' p3, below_cell hb7' p4, below_cell hb7' hca⟩
      clear hput hb7 hb7' hs2 hn2 hS1 p2 p3 p4 hca f2
      refine hK.out _ _ (fun _ => hS7) (fun _ => ?_)
      clear hK
      try simp only [Act.put, g1, g2, g3, g4, g5, g6]
      iterate 1 (refine wpE rfl rfl ?_; try simp only [Act.put, g1, g2, g3, g4, g5, g6])
      obtain ⟨-, -, p2, p3, p4, -, -⟩ := H7.out.r1.seven
      obtain ⟨-, -, f2, f3, f4, -, -⟩ := H7.out.r1.fz7
      refine wpAnyE_one (i := 8) (by kernel_rfl) rfl (fun K hK => ?_)
      simp only [g4, g5, g6]
      go_simp
      refine hK.out _ _ (fun h => absurd rfl h) (fun _ => ?_)
      clear hK
      try simp only [Act.put, g1, g2, g3, g4, g5, g6]
      refine wpAnyE_done (by kernel_rfl) ?_ _
      have H8 := H7.out.setS cR2 cT2 HX7.out.1 (HST.out.new HX7.out.2)
      have hf8 : Fr w7 (((w7.setCell ⟨Q, 2, none⟩ (.bool (put1 s1 r).no)).setCell ⟨Q, 3, none⟩ (.slice AR2 (put1 s1 r).rs.length cR2)).setCell ⟨Q, 4, none⟩ (.slice AT2 (put1 s1 r).ts.length cT2)) (· = Q) := (((Fr.of_below (X := (· = Q)) (Below.refl _ w7)).setB 2 _).setB 3 _).setB 4 _
      have hn8 := HN7.out.box hf8 (H7.out.r1.no32 (no32_of rvC_no32))
      have hno8 := HNO.out.trans HX7.out.2 (by have := HST.out.b.size; have := HSS.out; have := HST.out.sz; omega)
      rw [← HPS.out] at H8 hf8 hn8
      have HE8 : Hid (∃ AR' cR' AT' cT', RSt w S Q B Al n cl l v1 v2 v3 v4 L k (putL s (rows.take (i + 1))) AR' cR' AT' cT' _ ∧ RowsN _ Q (some ad) rows ∧ NewOr w AT AT') := Lib.hid ⟨AR2, cR2, AT2, cT2, H8, hn8, hno8⟩
      rw [HPS.out] at HE8
      clear H8 hf8 hn8 hno8 hS7 p2 p3 p4 f2 f3 f4
      go_wp2
      go_roundw
      case rel => exact ⟨i + 1, by omega, by go_num, by rw [HPS.out]; exact HE8⟩
      case measure => simp [intOf]; omega
     ·obtain rfl : i = rows.length := by omega
      rw [List.take_length] at hst
      have i0 : ¬ ((rows.length : Nat) : Int) < (rows.length : Int) := by omega
      have H8 := Lib.hid hst
      obtain ⟨p0, p1, p2, p3, p4, p5, p6⟩ := hst.r1.seven
      have f1 := hst.r1.frozen 1
      clear hst hrn hno
      go_upto_region 14 with fail
      refine wp_nameW fun w8 hw8 => ?_
      have H9h := Lib.hid (H8.out.setI k' (z := (k' : Int)) rfl)
      rw [← hw8] at H9h
      clear hw8 p0 p1 p2 p3 p4 p5 p6 f1
      obtain ⟨p0, p1, p2, p3, p4, p5, p6⟩ := H9h.out.r1.seven
      obtain ⟨z0, z1, z2, z3, z4, z5, z6⟩ := H9h.out.r3.seven
      obtain ⟨y0, y1, y2, y3, y4, y5, y6⟩ := H9h.out.r3.fz7
      go_wp2
      have H9 := H9h.out
      obtain ⟨hs9, hb9, hr9, -⟩ := H9.end_ H9.sw H9.lt (.slice Al n cl) (.int .i64 k') (.bool (putL s rows).no) (.slice AR1 (putL s rows).rs.length cR1) (.slice AT1 (putL s rows).ts.length cT1) (.int .i64 0) (.int .i64 0) _ rfl
      obtain ⟨e0, e1, e2, e3, e4, e5, e6⟩ := hr9.seven
      unfold s7 at e0 e1 e2 e3 e4 e5 e6 hs9 hb9
      refine bodyPost_ret (v := .agg #[.slice Al n cl, .int .i64 k', .bool (putL s rows).no, .slice AR1 (putL s rows).rs.length cR1, .slice AT1 (putL s rows).ts.length cT1, .int .i64 0, .int .i64 0]) (by simp [results, Tryz.results77, go_sem, e0, e1, e2, e3, e4, e5, e6]) rfl ?_
      exact ⟨_, rfl, by rw [HSS.out]; exact hb9, putL s rows, AR1, cR1, AT1, cT1, k', 0, 0, rfl, hs9, HNO.out, .inl ⟨rfl, rfl, HV2.out⟩⟩
   ·have HV2 : Hid (itemB L l s k = .error (E, P)) := Lib.hid (by rw [HV.out, hc])
    have hb45 : Below w4.heap.size w4 w5 := by rw [hw5]; exact below_new _ _
    have hbx : Rw w5 Q 144 #[.slice Al n cl, .int .i64 k, .bool s.no, .slice AR s.rs.length cR, .slice AT s.ts.length cT, .int .i64 E, .int .i64 P] := by rw [hw5, hQ]; exact heap_alloc_new w4 _
    have H5 := Lib.hid (H4.out.next hb45)
    have HS5 := Lib.hid (HX4.out.2.next hb45)
    have t1 : (((E : Nat) : Int) != 0) = true := by simp; omega
    have HE0 := Lib.hid hE0
    clear hc hw5 hQ hb45 hE0
    obtain ⟨p0, p1, p2, p3, p4, p5, p6⟩ := hbx.seven
    obtain ⟨z0, z1, z2, z3, z4, z5, z6⟩ := H5.out.r3.seven
    obtain ⟨y0, y1, y2, y3, y4, y5, y6⟩ := H5.out.r3.fz7
    clear hbx
    go_wp2
    obtain ⟨hs9, hb9, hr9, -⟩ := H5.out.end_ HS5.out H5.out.lt (.slice Al n cl) (.int .i64 k) (.bool s.no) (.slice AR s.rs.length cR) (.slice AT s.ts.length cT) (.int .i64 E) (.int .i64 P) _ rfl
    obtain ⟨e0, e1, e2, e3, e4, e5, e6⟩ := hr9.seven
    unfold s7 at e0 e1 e2 e3 e4 e5 e6 hs9 hb9
    refine bodyPost_ret (v := .agg #[.slice Al n cl, .int .i64 k, .bool s.no, .slice AR s.rs.length cR, .slice AT s.ts.length cT, .int .i64 E, .int .i64 P]) (by simp [results, Tryz.results77, go_sem, e0, e1, e2, e3, e4, e5, e6]) rfl ?_
    exact ⟨_, rfl, by rw [HSS.out]; exact hb9, s, AR, cR, AT, cT, k, E, P, rfl, hs9, NewOr.refl _ _, .inr ⟨HE0.out, HV2.out⟩⟩
end Go.Proofs.YthgiikhkcpbpfaaGreatDoor.C
namespace Go.Proofs.YthgiikhkcpbpfaaGreatDoor.C
open Go.RowKit

def btR (r : Except BEr BSet) (k : Nat) : Except BEr (BSet × Nat) := match r with | .error e => .error e | .ok s => .ok (s, k)
set_option maxRecDepth 100000 in
set_option maxHeartbeats 16000000 in
theorem between10_any (w : World) (B : Nat) (v1 v2 v3 v4 : Value) (L : Loc) (Al : Option Addr) (n cl k : Nat) (l : List Int) (s : BSet) (AR : Option Addr) (cR : Nat) (AT : Option Addr) (cT : Nat) (Aa Ab : Option Addr) (ma ca mb cb : Nat) (xs ys : List Int) (p : Nat)
  (hL : LocR w B v1 v2 v3 v4 L) (hB : B ≤ w.heap.size) (hR : rightL L = true) (hs : SetW w AR AT s) (hl : RI .i32 w B Al n l) (h1 : s.rs.length ≤ 1000000000) (h2 : s.ts.length ≤ 1000000000)
  (hx : RI .i32 w w.heap.size Aa ma xs) (hy : RI .i32 w w.heap.size Ab mb ys) (hma : ma ≤ 1000) (hmb : mb ≤ 1000) :
  Calls Tryz.prog 80 #[rvV Al n cl k s.no AR s.rs.length cR AT s.ts.length cT 0 0, .agg #[v1, v2, v3, v4], .slice Aa ma ca, .slice Ab mb cb, .int .i64 p] w fun e w' => ∃ v, e = .returned v ∧ RTold w w' Al n cl AT (btR (betwB L s xs ys p) k) v := by
 have h5 := ord500 hR
 unfold rvV
 obtain ⟨i0, hi, hz0, hz1, hz2⟩ := info_parts infoRange8
 obtain ⟨S, hS⟩ : ∃ S, w.heap.size = S := ⟨_, rfl⟩
 obtain ⟨W, hW⟩ : ∃ W, W = ((w.alloc (.cells (rvC Al n cl k s AR cR AT cT) 144)).alloc (.cells #[v1, v2, v3, v4] 27)).alloc (.cells #[.slice none 0 0, .int .i64 0, .bool false, .slice none 0 0, .slice none 0 0, .int .i64 0, .int .i64 0] 144) := ⟨_, rfl⟩
 have hst0 := RSt.start (cl := cl) (k := k) (cR := cR) (cT := cT) hS hW (by omega) hs hl hL
 obtain ⟨A4, c4, xx, hv4, -⟩ := id hst0.loc.2.2.2.1
 subst hv4
 have H := Lib.hid hst0
 have HSS := Lib.hid hS
 have HON := Lib.hid hs.ones
 have hbW := hst0.b
 have HX := Lib.hid (hx.on hbW (by omega))
 have HY := Lib.hid (hy.on hbW (by omega))
 have hlx := hx.len
 have hly := hy.len
 obtain ⟨pa, hpa⟩ : ∃ pa, pa = placeV L.ord xs := ⟨_, rfl⟩
 obtain ⟨pb, hpb⟩ : ∃ pb, pb = placeV L.ord ys := ⟨_, rfl⟩
 have HNB : Hid (numB L xs ys = decide (ma = 1 ∧ mb = 1 ∧ (pa < 0 ∨ pb < 0))) := Lib.hid (by unfold numB; rw [hlx, hly, hpa, hpb])
 have hca := place07_any W B w.heap.size (.slice A4 L.ord.length c4) L.ord Aa ma ca xs H.out.loc.2.2.2.1 HX.out h5 (by unfold maxLen; omega)
 have hcb := fun q => place07_any (W.drewN q) B w.heap.size (.slice A4 L.ord.length c4) L.ord Ab mb cb ys H.out.loc.2.2.2.1 HY.out h5 (by unfold maxLen; omega)
 rw [← hpa] at hca
 rw [← hpb] at hcb
 have HPP := Lib.hid (And.intro hpa hpb)
 clear hL hs hl hx hy hst0 hlx hly hpa hpb hbW
 go_enter Tryz.func80, Tryz.ntmps80
 unfold rvC at hW
 go_upto_region 1 with fail
 rw [← hW]
 clear hW hS
 have d3 := H.out.r2.cell (i := 3) rfl
 by_cases hnum : ma = 1 ∧ mb = 1 ∧ (pa < 0 ∨ pb < 0)
 ·have HN : Hid (numB L xs ys = true) := Lib.hid (by rw [HNB.out, decide_eq_true hnum])
  obtain ⟨rfl, rfl, hor⟩ := hnum
  obtain ⟨x, rfl⟩ : ∃ x, xs = [x] := by
   have := HX.out.len
   match xs, this with
   | [z], _ => exact ⟨z, rfl⟩
  obtain ⟨y, rfl⟩ : ∃ y, ys = [y] := by
   have := HY.out.len
   match ys, this with
   | [z], _ => exact ⟨z, rfl⟩
  obtain ⟨ada, rfl, hba, hcca⟩ := HX.out.2 (by omega)
  obtain ⟨adb, rfl, hbb, hccb⟩ := HY.out.2 (by omega)
  have HDA : Hid (W.cell? ada = some (.int .i32 x)) := Lib.hid (by have := hcca 0 x rfl; rwa [Addr.add_zero'] at this)
  have HDB : Hid (W.cell? adb = some (.int .i32 y)) := Lib.hid (by have := hccb 0 y rfl; rwa [Addr.add_zero'] at this)
  have HLT : Hid (ada.block < w.heap.size ∧ adb.block < w.heap.size) := Lib.hid ⟨hba, hbb⟩
  clear hba hbb hcca hccb
  have htwo : pa < 0 ∨ (¬ pa < 0 ∧ pb < 0) := by omega
  clear hor
  rcases htwo with t3 | ⟨t3, t4⟩
  all_goals
   go_upto_region 2 with (first | ((with_reducible refine hca.mono ?_); rintro e w' ⟨rfl, q1, rfl⟩) | ((with_reducible refine (hcb _).mono ?_); rintro e w' ⟨rfl, q2, rfl⟩))
   refine wp_nameW fun w2 hw2 => ?_
   have H2 := Lib.hid (show RSt w S S B Al n cl l v1 v2 v3 (.slice A4 L.ord.length c4) L k s AR cR AT cT w2 from by rw [hw2]; first | exact H.out | exact H.out.drewN _)
   have HX2 : Hid (w2.cell? ada = some (.int .i32 x)) := Lib.hid (by rw [hw2]; exact HDA.out)
   have HY2 : Hid (w2.cell? adb = some (.int .i32 y)) := Lib.hid (by rw [hw2]; exact HDB.out)
   have HWS : Hid (w.heap.size ≤ w2.heap.size) := Lib.hid (by have := H2.out.sz; have := HSS.out; omega)
   clear hw2 d3
   have c1 := HX2.out
   have c2 := HY2.out
   by_cases hyx : y < x
   ·have HV2 : Hid (btR (betwB L s [x] [y] p) k = .error (40, p)) := Lib.hid (by rw [betw_num HN.out, if_pos hyx]; rfl)
    go_wp2
    go_quiet (fail)
    have HQ := Lib.hid (H2.out.drewN nq)
    obtain ⟨p0, p1, p2, p3, p4, p5, p6⟩ := HQ.out.r1.seven
    have hfl := fail10_any (w2.drewN nq) Al n cl k s.no AR s.rs.length cR AT s.ts.length cT 40 p
    go_wp2_with fail
    refine hfl.mono ?_
    rintro e w5 ⟨rfl, hb5⟩
    have H5 := Lib.hid (HQ.out.next hb5)
    clear hfl hb5 p0 p1 p2 p3 p4 p5 p6
    obtain ⟨z0, z1, z2, z3, z4, z5, z6⟩ := H5.out.r3.seven
    obtain ⟨y0, y1, y2, y3, y4, y5, y6⟩ := H5.out.r3.fz7
    go_wp2
    obtain ⟨hs9, hb9, hr9, -⟩ := H5.out.end_ H5.out.sw H5.out.lt (.slice Al n cl) (.int .i64 k) (.bool s.no) (.slice AR s.rs.length cR) (.slice AT s.ts.length cT) (.int .i64 40) (.int .i64 p) _ rfl
    obtain ⟨e0, e1, e2, e3, e4, e5, e6⟩ := hr9.seven
    unfold s7 at e0 e1 e2 e3 e4 e5 e6 hs9 hb9
    refine bodyPost_ret (v := .agg #[.slice Al n cl, .int .i64 k, .bool s.no, .slice AR s.rs.length cR, .slice AT s.ts.length cT, .int .i64 40, .int .i64 p]) (by simp [results, Tryz.results80, go_sem, e0, e1, e2, e3, e4, e5, e6]) rfl ?_
    exact ⟨_, rfl, by rw [HSS.out]; exact hb9, s, AR, cR, AT, cT, k, 40, p, rfl, hs9, NewOr.refl _ _, .inr ⟨by omega, HV2.out⟩⟩
   ·have HV2 : Hid (btR (betwB L s [x] [y] p) k = .ok (⟨s.no, s.rs ++ [(x, y)], s.ts⟩, k)) := Lib.hid (by rw [betw_num HN.out, if_neg hyx]; rfl)
    go_wp2
    go_quiet (fail)
    have HQ := Lib.hid (H2.out.drewN nq)
    obtain ⟨p0, p1, p2, p3, p4, p5, p6⟩ := HQ.out.r1.seven
    have HNO := Lib.hid (NewOr.refl w AT)
    go_wp2_with (at_builtin; refine wpList_append_si rfl _ _ 31 rfl w2.heap.size 46 i0 (.agg #[.int .i32 0, .int .i32 0]) 2 8 Tryz.underlying31 hi hz0 hz1 hz2 rfl (by decide) (.slice none 0 0) 0 [] rfl (World.ownsRow_nil _ _ _ _) w2.heap.size AR s.rs.length cR (s.rs.map prRow) rfl HQ.out.sw.r HON.out (by unfold maxLen; omega) (by omega) (Nat.le_refl _) ?_; intro v5 w5 hown hgr hat; rw [Nat.zero_add, List.nil_append, pr_flat] at hown; obtain ⟨A5, c5, rfl⟩ := row_form hown; have hb5 : Below w2.heap.size w2 w5 := (below_drewN (Below.refl _ _) nq).grown hgr (Nat.le_refl _) (by intro b hb; cases hb); have HO5 := Lib.hid hown; have HB5 := Lib.hid hb5; clear hown hgr hat hb5 p0 p1 p2 p3 p4 p5 p6)
    have d4 : w5.cell? ada = some (.int .i32 x) := below_cell HB5.out c1
    have d5 : w5.cell? adb = some (.int .i32 y) := below_cell HB5.out c2
    clear c1 c2
    refine wp_region_held (S := fun W' : World => W'.cell? ada = some (.int .i32 x) ∧ W'.cell? adb = some (.int .i32 y)) (by kernel_rfl) ?_
    change wpAnyH _ _ _ _ _ _ _ _ w5.drew
    have hS1 : (fun W' : World => W'.cell? ada = some (.int .i32 x) ∧ W'.cell? adb = some (.int .i32 y)) w5.drew := ⟨d4, d5⟩
    iterate 8 (refine wpH rfl rfl ?_; try simp only [Act.put, g1, g2, g3, g4, g5, g6])
    refine wpAnyH_one (i := 8) (by kernel_rfl) rfl (fun K hK => ?_)
    simp only [g4, g5, g6]
    go_simp
    obtain ⟨w6, hw6⟩ : ∃ w6, w6 = w5.drew.alloc (.cells #[.int .i32 x, .int .i32 y] 46) := ⟨_, rfl⟩
    have hb6 : Below w5.heap.size w5 w6 := by rw [hw6]; exact (below_drew (Below.refl _ _)).alloc (Nat.le_refl _) _
    have hs6 : w6.heap.size = w5.heap.size + 1 := by rw [hw6]; simp
    have hS6 : (fun W' : World => W'.cell? ada = some (.int .i32 x) ∧ W'.cell? adb = some (.int .i32 y)) w6 := ⟨below_cell hb6 d4, below_cell hb6 d5⟩
    have hp6 : ∀ (j : Nat) (u : Value), [Value.int .i32 x, .int .i32 y][j]? = some u → w6.cell? ((⟨w5.heap.size, 0, none⟩ : Addr).add j) = some u := by rw [hw6]; exact pair_new8 w5.drew x y _
    rw [show (w5.alloc (.cells #[.int .i32 x, .int .i32 y] 46)).drew = w6 from by rw [hw6]; rfl]
    have HO6 := Lib.hid (own_next HO5.out hb6)
    have HB6 : Hid (Below w2.heap.size w2 w6) := Lib.hid (HB5.out.trans (hb6.mono HB5.out.size))
    refine hK.out _ _ hS6 (fun _ => ?_)
    clear hK hw6 hb6 d4 d5
    try simp only [Act.put, g1, g2, g3, g4, g5, g6]
    refine wpAnyH_one (i := 9) (by kernel_rfl) rfl (fun K hK => ?_)
    refine step_append_lies _ (by rfl) _ _ _ (by rfl) w2.heap.size 46 i0 (.agg #[.int .i32 0, .int .i32 0]) 2 8 Tryz.underlying31 hi hz0 hz1 hz2 rfl (by decide) _ s.rs.length (prsC s.rs) (by rfl) HO6.out ⟨w5.heap.size, 0, none⟩ 1 1 [.int .i32 x, .int .i32 y] (by rfl) (by rfl) hp6 (by intro u hu; simp at hu; rcases hu with rfl | rfl <;> rfl) (by omega) (by unfold maxLen; omega) (by omega) HB6.out.size _ rfl ?_
    intro g cap w7 hown7 hgr7 hat7 _
    have hb7 : Below w2.heap.size w6 w7 := (Below.refl _ _).grown hgr7 HB6.out.size (fun b hb => (HO6.out.lt b hb).1)
    have hS7 : (fun W' : World => W'.cell? ada = some (.int .i32 x) ∧ W'.cell? adb = some (.int .i32 y)) w7 := ⟨(hb7.cell (p := ada) (by have := HLT.out.1; have := HWS.out; omega)).trans hS6.1, (hb7.cell (p := adb) (by have := HLT.out.2; have := HWS.out; omega)).trans hS6.2⟩
    have HB7 : Hid (Below w2.heap.size w2 w7) := Lib.hid (HB6.out.trans hb7)
    have HO7 : Hid (w7.ownsRow w2.heap.size 46 2 (.slice (some ⟨g, 0, none⟩) (s.rs.length + 1) cap) (s.rs.length + 1) (prsC (s.rs ++ [(x, y)]))) := Lib.hid (by rw [prs_snocK]; exact hown7)
    clear hown7 hgr7 hat7 hb7 hp6
    refine hK.out _ _ hS7 (fun _ => ?_)
    try simp only [Act.put, g1, g2, g3, g4, g5, g6]
    refine wpH rfl rfl ?_; try simp only [Act.put, g1, g2, g3, g4, g5, g6]
    refine wpAnyH_done (by kernel_rfl) ?_ _
    clear hK hS1 hS6 hS7
    have H7 := Lib.hid (H2.out.next HB7.out)
    obtain ⟨p0, p1, p2, p3, p4, p5, p6⟩ := H7.out.r1.seven
    have f3 := H7.out.r1.frozen 3
    go_upto_region 8 with fail
    refine wp_nameW fun w8 hw8 => ?_
    obtain ⟨s', hs'⟩ : ∃ s' : BSet, s' = ⟨s.no, s.rs ++ [(x, y)], s.ts⟩ := ⟨_, rfl⟩
    have h8 := H7.out.setR0 (m := s.rs.length + 1) cap (by rw [List.length_append]; rfl) (H2.out.sw.ofR HB7.out (by rw [List.length_append]; rfl) HO7.out)
    rw [← hw8, ← hs'] at h8
    rw [← hs'] at HV2
    clear hw8 hs' p0 p1 p2 p3 p4 p5 p6 f3
    have H9 := Lib.hid h8
    obtain ⟨p0, p1, p2, p3, p4, p5, p6⟩ := H9.out.r1.seven
    obtain ⟨z0, z1, z2, z3, z4, z5, z6⟩ := H9.out.r3.seven
    obtain ⟨y0, y1, y2, y3, y4, y5, y6⟩ := H9.out.r3.fz7
    clear h8
    go_wp2
    obtain ⟨hs9, hb9, hr9, -⟩ := H9.out.end_ H9.out.sw H9.out.lt (.slice Al n cl) (.int .i64 k) (.bool s'.no) (.slice (some ⟨g, 0, none⟩) s'.rs.length cap) (.slice AT s'.ts.length cT) (.int .i64 0) (.int .i64 0) _ rfl
    obtain ⟨e0, e1, e2, e3, e4, e5, e6⟩ := hr9.seven
    unfold s7 at e0 e1 e2 e3 e4 e5 e6 hs9 hb9
    refine bodyPost_ret (v := .agg #[.slice Al n cl, .int .i64 k, .bool s'.no, .slice (some ⟨g, 0, none⟩) s'.rs.length cap, .slice AT s'.ts.length cT, .int .i64 0, .int .i64 0]) (by simp [results, Tryz.results80, go_sem, e0, e1, e2, e3, e4, e5, e6]) rfl ?_
    exact ⟨_, rfl, by rw [HSS.out]; exact hb9, s', (some ⟨g, 0, none⟩), cap, AT, cT, k, 0, 0, rfl, hs9, HNO.out, .inl ⟨rfl, rfl, HV2.out⟩⟩
 ·have HN : Hid (numB L xs ys = false) := Lib.hid (by rw [HNB.out, decide_eq_false hnum])
  have hthree : (((ma : Int) == 1) = false) ∨ (((ma : Int) == 1) = true ∧ ((mb : Int) == 1) = false) ∨ (((ma : Int) == 1) = true ∧ ((mb : Int) == 1) = true ∧ ¬ pa < 0 ∧ ¬ pb < 0) := by
   by_cases ha : ma = 1
   ·by_cases hb : mb = 1
    ·exact .inr (.inr ⟨by simp [ha], by simp [hb], fun h => hnum ⟨ha, hb, .inl h⟩, fun h => hnum ⟨ha, hb, .inr h⟩⟩)
    ·exact .inr (.inl ⟨by simp [ha], by simp; omega⟩)
   ·exact .inl (by simp; omega)
  clear hnum
  rcases hthree with t1 | ⟨t1, t2⟩ | ⟨t1, t2, t3, t4⟩
  all_goals
   go_upto_region 9 with (first | ((with_reducible refine hca.mono ?_); rintro e w' ⟨rfl, q1, rfl⟩) | ((with_reducible refine (hcb _).mono ?_); rintro e w' ⟨rfl, q2, rfl⟩))
   refine wp_nameW fun w2 hw2 => ?_
   have H2 := Lib.hid (show RSt w S S B Al n cl l v1 v2 v3 (.slice A4 L.ord.length c4) L k s AR cR AT cT w2 from by rw [hw2]; first | exact H.out | exact H.out.drewN _)
   have HX2 : Hid (RI .i32 w2 w.heap.size Aa ma xs) := Lib.hid (by rw [hw2]; exact HX.out)
   have HY2 : Hid (RI .i32 w2 w.heap.size Ab mb ys) := Lib.hid (by rw [hw2]; exact HY.out)
   have HWS : Hid (w.heap.size ≤ w2.heap.size) := Lib.hid (by have := H2.out.sz; have := HSS.out; omega)
   clear hw2 d3
   have hbt := between08_any w2 B w.heap.size w.heap.size v1 v2 v3 (.slice A4 L.ord.length c4) L Aa Ab ma ca mb cb xs ys H2.out.loc (by have := H2.out.sz; have := H2.out.hB; omega) h5 HX2.out HWS.out (by unfold maxLen; omega) HY2.out HWS.out (by unfold maxLen; omega)
   obtain ⟨d0, d1, d2, d3⟩ := H2.out.r2.four
   go_wp2_with fail
   refine hbt.mono ?_
   rintro e w3 ⟨hb3, herr, hok⟩
   have H3 := Lib.hid (H2.out.next hb3)
   have HSZ : Hid (w2.heap.size ≤ w3.heap.size) := Lib.hid hb3.size
   clear hbt hb3 d0 d1 d2 d3
   by_cases hno : pa < 0 ∨ pb < pa
   ·have HV2 : Hid (btR (betwB L s xs ys p) k = .error (40, p)) := Lib.hid (by rw [betw_ord HN.out, ← HPP.out.1, ← HPP.out.2, if_pos hno]; rfl)
    obtain rfl := herr (by rw [← HPP.out.1, ← HPP.out.2]; exact hno)
    clear herr hok hno
    obtain ⟨p0, p1, p2, p3, p4, p5, p6⟩ := H3.out.r1.seven
    have hfl := fail10_any w3 Al n cl k s.no AR s.rs.length cR AT s.ts.length cT 40 p
    go_wp2_with fail
    refine hfl.mono ?_
    rintro e w5 ⟨rfl, hb5⟩
    have H5 := Lib.hid (H3.out.next hb5)
    clear hfl hb5 p0 p1 p2 p3 p4 p5 p6
    obtain ⟨z0, z1, z2, z3, z4, z5, z6⟩ := H5.out.r3.seven
    obtain ⟨y0, y1, y2, y3, y4, y5, y6⟩ := H5.out.r3.fz7
    go_wp2
    obtain ⟨hs9, hb9, hr9, -⟩ := H5.out.end_ H5.out.sw H5.out.lt (.slice Al n cl) (.int .i64 k) (.bool s.no) (.slice AR s.rs.length cR) (.slice AT s.ts.length cT) (.int .i64 40) (.int .i64 p) _ rfl
    obtain ⟨e0, e1, e2, e3, e4, e5, e6⟩ := hr9.seven
    unfold s7 at e0 e1 e2 e3 e4 e5 e6 hs9 hb9
    refine bodyPost_ret (v := .agg #[.slice Al n cl, .int .i64 k, .bool s.no, .slice AR s.rs.length cR, .slice AT s.ts.length cT, .int .i64 40, .int .i64 p]) (by simp [results, Tryz.results80, go_sem, e0, e1, e2, e3, e4, e5, e6]) rfl ?_
    exact ⟨_, rfl, by rw [HSS.out]; exact hb9, s, AR, cR, AT, cT, k, 40, p, rfl, hs9, NewOr.refl _ _, .inr ⟨by omega, HV2.out⟩⟩
   ·obtain ⟨i1, hi1⟩ : ∃ i1 : Nat, pa = (i1 : Int) := ⟨pa.toNat, by omega⟩
    obtain ⟨j1, hj1⟩ : ∃ j1 : Nat, pb = (j1 : Int) := ⟨pb.toNat, by omega⟩
    obtain ⟨A6, c6, rfl, hq6⟩ := hok i1 j1 (by rw [← HPP.out.1, hi1]) (by rw [← HPP.out.2, hj1]) (by omega)
    have hj5 : j1 < L.ord.length := by
     rcases place_is (o := L.ord) (cs := ys) with ⟨j, e, he, _, hpj⟩ | ⟨_, hpj⟩
     ·have := (List.getElem?_eq_some_iff.1 he).1
      have := HPP.out.2
      omega
     ·have := HPP.out.2
      omega
    obtain ⟨rows, hrows⟩ : ∃ rows, rows = (runN i1 (j1 - i1 + 1)).map (cellsJ L.ord) := ⟨_, rfl⟩
    rw [← hrows] at hq6 ⊢
    have hrl : rows.length ≤ 500 := by rw [hrows, List.length_map, runN_len]; omega
    have HV2 : Hid (btR (betwB L s xs ys p) k = .ok (putL s rows, k)) := Lib.hid (by rw [betw_ord HN.out, ← HPP.out.1, ← HPP.out.2, if_neg hno, hi1, hj1, Int.toNat_natCast, Int.toNat_natCast, ← hrows]; rfl)
    have HN6 := Lib.hid (hq6.toN (Q := S) (by have := HSZ.out; have := H2.out.sz; have := H2.out.hB; omega) (by have := H2.out.sz; omega))
    have H6 := H3
    clear herr hok hno hi1 hj1 hq6 hj5 hrows HPP
    go_wp2
    go_loopw [14] (fun iv wr => ∃ i : Nat, i ≤ rows.length ∧ iv = .int .i64 (i : Int) ∧ Hid (∃ AR' cR' AT' cT', RSt w S S B Al n cl l v1 v2 v3 (.slice A4 L.ord.length c4) L k (putL s (rows.take i)) AR' cR' AT' cT' wr ∧ RowsN wr S A6 rows ∧ NewOr w AT AT')) (fun iv _ => rows.length - (intOf iv).toNat)
    case atStart => exact ⟨0, Nat.zero_le _, rfl, Lib.hid ⟨AR, cR, AT, cT, H6.out, HN6.out, NewOr.refl _ _⟩⟩
    case round =>
     obtain ⟨i, hi, rfl, HQ⟩ := hrel
     obtain ⟨AR1, cR1, AT1, cT1, hst, hrn, hno⟩ := HQ.out
     have HST := Lib.hid hst
     have HRN := Lib.hid hrn
     have HNO := Lib.hid hno
     by_cases hlt : i < rows.length
     ·obtain ⟨r, hr⟩ : ∃ r, rows[i]? = some r := ⟨_, List.getElem?_eq_getElem hlt⟩
      obtain ⟨ad, a, c, rfl, hne, -, hca, hria, hrm⟩ := hrn i r hr
      have hpl := putL_len (rows.take i) s
      have htk : (rows.take i).length ≤ i := List.length_take_le _ _
      have hps : putL s (rows.take (i + 1)) = put1 (putL s (rows.take i)) r := by rw [take_snoc hr, putL_snoc]
      obtain ⟨s1, hs1⟩ : ∃ s1, s1 = putL s (rows.take i) := ⟨_, rfl⟩
      rw [← hs1] at hst HST hpl hps
      have HPS := Lib.hid hps
      have hput := put10_any wr.drew s1 AR1 AT1 a cR1 cT1 c wr.heap.size r.length r (hst.sw.next (below_drew (Below.refl _ _))) hria (Nat.le_refl _) (by omega) (by omega) hrm
      have i0 : (i : Int) < (rows.length : Int) := by omega
      have i1 : (0 : Int) ≤ (i : Int) := by omega
      obtain ⟨-, -, p2, p3, p4, -, -⟩ := hst.r1.seven
      have f2 := hst.r1.frozen 2
      clear hst hrn hno hr hria hps hs1 hpl htk
      go_upto_region 15 with fail
      have hS1 : (fun W' : World => W'.cell? ⟨S, 2, none⟩ = some (.bool s1.no) ∧ W'.cell? ⟨S, 3, none⟩ = some (.slice AR1 s1.rs.length cR1) ∧ W'.cell? ⟨S, 4, none⟩ = some (.slice AT1 s1.ts.length cT1) ∧ W'.cell? (ad.add i) = some (.slice a r.length c)) wr.drew := ⟨p2, p3, p4, hca⟩
      refine wp_region_E (S := fun W' : World => W'.cell? ⟨S, 2, none⟩ = some (.bool s1.no) ∧ W'.cell? ⟨S, 3, none⟩ = some (.slice AR1 s1.rs.length cR1) ∧ W'.cell? ⟨S, 4, none⟩ = some (.slice AT1 s1.ts.length cT1) ∧ W'.cell? (ad.add i) = some (.slice a r.length c)) (L := 8) (by kernel_rfl) ?_
      iterate 6 (refine wpE rfl rfl ?_; try simp only [Act.put, g1, g2, g3, g4, g5, g6])
      refine wpAnyE_one (i := 6) (by kernel_rfl) rfl (fun K hK => ?_)
      simp only [g4, g5, g6]
      go_simp
      refine hput.mono ?_
      rintro e w7 ⟨hb7, AR2, cR2, AT2, cT2, rfl, hs2, hn2⟩
      have hb7' : Below wr.heap.size wr w7 := (below_drew (Below.refl _ _)).trans hb7
      have H7 := Lib.hid (HST.out.next hb7')
      have HN7 := Lib.hid (HRN.out.next hb7')
      have HX7 := Lib.hid (And.intro hs2 (show NewOr wr AT1 AT2 from hn2))
      have hS7 : (fun W' : World => W'.cell? ⟨S, 2, none⟩ = some (.bool s1.no) ∧ W'.cell? ⟨S, 3, none⟩ = some (.slice AR1 s1.rs.length cR1) ∧ W'.cell? ⟨S, 4, none⟩ = some (.slice AT1 s1.ts.length cT1) ∧ W'.cell? (ad.add i) = some (.slice a r.length c)) w7 := ⟨below_cell hb7' p2, below_cell hb7' p3, below_cell hb7' p4, below_cell hb7' hca⟩
      clear hput hb7 hb7' hs2 hn2 hS1 p2 p3 p4 hca f2
      refine hK.out _ _ (fun _ => hS7) (fun _ => ?_)
      clear hK
      try simp only [Act.put, g1, g2, g3, g4, g5, g6]
      iterate 1 (refine wpE rfl rfl ?_; try simp only [Act.put, g1, g2, g3, g4, g5, g6])
      obtain ⟨-, -, p2, p3, p4, -, -⟩ := H7.out.r1.seven
      obtain ⟨-, -, f2, f3, f4, -, -⟩ := H7.out.r1.fz7
      refine wpAnyE_one (i := 8) (by kernel_rfl) rfl (fun K hK => ?_)
      simp only [g4, g5, g6]
      go_simp
      refine hK.out _ _ (fun h => absurd rfl h) (fun _ => ?_)
      clear hK
      try simp only [Act.put, g1, g2, g3, g4, g5, g6]
      refine wpAnyE_done (by kernel_rfl) ?_ _
      have H8 := H7.out.setS cR2 cT2 HX7.out.1 (HST.out.new HX7.out.2)
      have hf8 : Fr w7 (((w7.setCell ⟨S, 2, none⟩ (.bool (put1 s1 r).no)).setCell ⟨S, 3, none⟩ (.slice AR2 (put1 s1 r).rs.length cR2)).setCell ⟨S, 4, none⟩ (.slice AT2 (put1 s1 r).ts.length cT2)) (· = S) := (((Fr.of_below (X := (· = S)) (Below.refl _ w7)).setB 2 _).setB 3 _).setB 4 _
      have hn8 := HN7.out.box hf8 (H7.out.r1.no32 (no32_of rvC_no32))
      have hno8 := HNO.out.trans HX7.out.2 (by have := HST.out.b.size; have := HSS.out; have := HST.out.sz; omega)
      rw [← HPS.out] at H8 hf8 hn8
      have HE8 : Hid (∃ AR' cR' AT' cT', RSt w S S B Al n cl l v1 v2 v3 (.slice A4 L.ord.length c4) L k (putL s (rows.take (i + 1))) AR' cR' AT' cT' _ ∧ RowsN _ S (some ad) rows ∧ NewOr w AT AT') := Lib.hid ⟨AR2, cR2, AT2, cT2, H8, hn8, hno8⟩
      rw [HPS.out] at HE8
      clear H8 hf8 hn8 hno8 hS7 p2 p3 p4 f2 f3 f4
      go_wp2
      go_roundw
      case rel => exact ⟨i + 1, by omega, by go_num, by rw [HPS.out]; exact HE8⟩
      case measure => simp [intOf]; omega
     ·obtain rfl : i = rows.length := by omega
      rw [List.take_length] at hst
      have i0 : ¬ ((rows.length : Nat) : Int) < (rows.length : Int) := by omega
      have H9 := Lib.hid hst
      obtain ⟨p0, p1, p2, p3, p4, p5, p6⟩ := H9.out.r1.seven
      obtain ⟨z0, z1, z2, z3, z4, z5, z6⟩ := H9.out.r3.seven
      obtain ⟨y0, y1, y2, y3, y4, y5, y6⟩ := H9.out.r3.fz7
      clear hst hrn hno
      go_wp2
      obtain ⟨hs9, hb9, hr9, -⟩ := H9.out.end_ H9.out.sw H9.out.lt (.slice Al n cl) (.int .i64 k) (.bool (putL s rows).no) (.slice AR1 (putL s rows).rs.length cR1) (.slice AT1 (putL s rows).ts.length cT1) (.int .i64 0) (.int .i64 0) _ rfl
      obtain ⟨e0, e1, e2, e3, e4, e5, e6⟩ := hr9.seven
      unfold s7 at e0 e1 e2 e3 e4 e5 e6 hs9 hb9
      refine bodyPost_ret (v := .agg #[.slice Al n cl, .int .i64 k, .bool (putL s rows).no, .slice AR1 (putL s rows).rs.length cR1, .slice AT1 (putL s rows).ts.length cT1, .int .i64 0, .int .i64 0]) (by simp [results, Tryz.results80, go_sem, e0, e1, e2, e3, e4, e5, e6]) rfl ?_
      exact ⟨_, rfl, by rw [HSS.out]; exact hb9, (putL s rows), AR1, cR1, AT1, cT1, k, 0, 0, rfl, hs9, HNO.out, .inl ⟨rfl, rfl, HV2.out⟩⟩
end Go.Proofs.YthgiikhkcpbpfaaGreatDoor.C
