/-
  The statements' has and the document's Same over rows of cells. No condition but what each names.
-/
import Derived.Test.YtknjhlbhbnldpaaGreatDoorQKoX
namespace Go.Proofs.YtknjhlbhbnldpaaGreatDoor.C
open Go.RowKit

def RowsR (w : World) (B : Nat) (A : Option Addr) (rs : List (List Int)) : Prop := 0 < rs.length → ∃ ad, A = some ad ∧ ad.block < B ∧ ∀ (i : Nat) (r : List Int), rs[i]? = some r → ∃ a c, w.cell? (ad.add i) = some (.slice a r.length c) ∧ RI .i32 w B a r.length r ∧ r.length ≤ maxLen
theorem RowsR.on {w w' : World} {B B' : Nat} {A : Option Addr} {rs : List (List Int)} (h : RowsR w B A rs) (hb : Below B' w w') (hB : B ≤ B') : RowsR w' B A rs := fun h0 => by
 obtain ⟨ad, e, h1, h2⟩ := h h0
 refine ⟨ad, e, h1, fun i r hr => ?_⟩
 obtain ⟨a, c, h3, h4, h5⟩ := h2 i r hr
 exact ⟨a, c, (hb.cell (p := ad.add i) (by rw [block_of_add]; omega)).trans h3, h4.on hb hB, h5⟩
theorem RowsAt.reads {w : World} {lo : Nat} {v : Value} {rs : List (List Int)} (h : RowsAt w lo v rs) : ∃ A c, v = .slice A rs.length c ∧ RowsR w w.heap.size A rs := by
 obtain ⟨vs, h1, h2, h3⟩ := h
 obtain ⟨A, c, rfl⟩ := row_form h2
 refine ⟨A, c, rfl, fun h0 => ?_⟩
 obtain ⟨g, cap, hv, hg, hlt⟩ := h2.form h0
 injection hv with hA _ _
 subst hA
 refine ⟨_, rfl, hlt, fun i r hi => ?_⟩
 have hl : i < rs.length := (List.getElem?_eq_some_iff.1 hi).1
 have hv : vs[i]? = some (vs[i]'(by omega)) := List.getElem?_eq_getElem (by omega)
 have ho := h3 i r _ hi hv
 obtain ⟨a, d, hA⟩ := row_form ho
 rw [hA] at ho hv
 exact ⟨a, d, h2.cells (g := g) rfl i _ hv, RI.of_own (zs := r) ho, own_len ho⟩
set_option maxRecDepth 100000 in
set_option maxHeartbeats 4000000 in
theorem has_any (w : World) (B Bx : Nat) (A Ax : Option Addr) (c m cx : Nat) (rs : List (List Int)) (cs : List Int) (h : RowsR w B A rs) (hx : RI .i32 w Bx Ax m cs) (hm : m ≤ maxLen) (hl : rs.length ≤ maxLen) :
  Calls Tryz.prog 24 #[.slice A rs.length c, .slice Ax m cx] w fun e w' => e = .returned (.bool (decide (cs ∈ rs))) ∧ ∃ q, w' = w.drewN q := by
 unfold maxLen at hl
 have HR := Lib.hid h
 have HX := Lib.hid hx
 clear h hx
 go_enter Tryz.func24, Tryz.ntmps24
 go_wp2
 go_loopw [5] (fun iv wr => ∃ k : Nat, k ≤ rs.length ∧ iv = .int .i64 k ∧ Hid (∃ q, wr = w.drewN q) ∧ Hid (∀ r ∈ rs.take k, r ≠ cs)) (fun iv _ => rs.length - (intOf iv).toNat)
 case atStart => exact ⟨0, Nat.zero_le _, rfl, Lib.hid ⟨0, rfl⟩, Lib.hid (by simp)⟩
 case round =>
  obtain ⟨k, hk, rfl, HW, HN⟩ := hrel
  obtain ⟨q, rfl⟩ := HW.out
  by_cases hlt : k < rs.length
  ·obtain ⟨r, hr⟩ : ∃ r, rs[k]? = some r := ⟨_, List.getElem?_eq_getElem hlt⟩
   obtain ⟨ad, rfl, _, hrows⟩ := HR.out (by omega)
   obtain ⟨a, d, hc, hri, hrl⟩ := hrows k r hr
   have hc' : (w.drewN q).cell? (ad.add k) = some (.slice a r.length d) := hc
   have i0 : (0 : Int) ≤ (k : Int) := by omega
   have i1 : (k : Int) < (rs.length : Int) := by omega
   have HRR := Lib.hid hr
   by_cases e : r = cs
   ·have hsa := same_yes (w.drewN q) _ _ a Ax _ d _ cx _ _ e hri HX.out hrl hm
    have HM : Hid (cs ∈ rs) := Lib.hid (e ▸ List.mem_of_getElem? hr)
    clear hr hrows hc hri e
    go_wp2_with fail
    refine hsa.mono ?_
    rintro e w2 ⟨rfl, q2, rfl⟩
    clear hsa
    go_wp2
    go_ret
    exact ⟨by rw [decide_eq_true HM.out]; rfl, _, rfl⟩
   ·have hsa := same_no (w.drewN q) _ _ a Ax _ d _ cx _ _ e hri HX.out hrl hm
    have HN2 : Hid (∀ r ∈ rs.take (k + 1), r ≠ cs) := Lib.hid (by
     rw [take_one hr]
     intro y hy
     rcases List.mem_append.1 hy with hy | hy
     ·exact HN.out y hy
     ·rw [List.mem_singleton] at hy
      subst hy
      exact e)
    clear hr hrows hc hri e
    go_wp2_with fail
    refine hsa.mono ?_
    rintro e w2 ⟨rfl, q2, rfl⟩
    clear hsa
    go_wp2
    go_roundw
    case rel => exact ⟨k + 1, by omega, by go_num, Lib.hid ⟨_, rfl⟩, HN2⟩
    case measure => simp [intOf]; omega
  ·obtain rfl : k = rs.length := by omega
   have HM : Hid (¬ cs ∈ rs) := Lib.hid (fun h => HN.out cs (by rw [List.take_length]; exact h) rfl)
   go_wp2
   go_ret
   exact ⟨by rw [decide_eq_false HM.out]; rfl, _, rfl⟩
set_option maxRecDepth 100000 in
set_option maxHeartbeats 4000000 in
theorem same08_yes (w : World) (B B2 : Nat) (A A2 : Option Addr) (c c2 : Nat) (rs : List (List Int)) (h : RowsR w B A rs) (h2 : RowsR w B2 A2 rs) (hl : rs.length ≤ maxLen) :
  Calls Tryz.prog 25 #[.slice A rs.length c, .slice A2 rs.length c2] w fun e w' => e = .returned (.bool true) ∧ ∃ q, w' = w.drewN q := by
 unfold maxLen at hl
 have HR := Lib.hid h
 have HR2 := Lib.hid h2
 clear h h2
 go_enter Tryz.func25, Tryz.ntmps25
 go_wp2
 go_loopw [5] (fun iv wr => ∃ k : Nat, k ≤ rs.length ∧ iv = .int .i64 k ∧ Hid (∃ q, wr = w.drewN q)) (fun iv _ => rs.length - (intOf iv).toNat)
 case atStart => exact ⟨0, Nat.zero_le _, rfl, Lib.hid ⟨0, rfl⟩⟩
 case round =>
  obtain ⟨k, hk, rfl, HW⟩ := hrel
  obtain ⟨q, rfl⟩ := HW.out
  by_cases hlt : k < rs.length
  ·obtain ⟨r, hr⟩ : ∃ r, rs[k]? = some r := ⟨_, List.getElem?_eq_getElem hlt⟩
   obtain ⟨ad, rfl, _, hrows⟩ := HR.out (by omega)
   obtain ⟨a, d, hc, hri, hrl⟩ := hrows k r hr
   obtain ⟨ad2, rfl, _, hrows2⟩ := HR2.out (by omega)
   obtain ⟨a2, d2, hc2, hri2, _⟩ := hrows2 k r hr
   have p1 : (w.drewN q).drew.cell? (ad.add k) = some (.slice a r.length d) := hc
   have p2 : (w.drewN q).drew.cell? (ad2.add k) = some (.slice a2 r.length d2) := hc2
   have i0 : (0 : Int) ≤ (k : Int) := by omega
   have i1 : (k : Int) < (rs.length : Int) := by omega
   have hsa := same_yes (w.drewN q).drew _ _ a a2 _ d _ d2 _ _ rfl hri hri2 hrl hrl
   clear hr hrows hc hri hrows2 hc2 hri2
   go_wp2
   refine wp_region_held (S := fun W' : World => W'.cell? (ad.add k) = some (.slice a r.length d) ∧ W'.cell? (ad2.add k) = some (.slice a2 r.length d2)) (by kernel_rfl) ?_
   change wpAnyH _ _ _ _ _ _ _ _ (w.drewN q).drew
   have hS1 : (fun W' : World => W'.cell? (ad.add k) = some (.slice a r.length d) ∧ W'.cell? (ad2.add k) = some (.slice a2 r.length d2)) (w.drewN q).drew := ⟨p1, p2⟩
   iterate 8 (refine wpH rfl rfl ?_; try simp only [Act.put, g1, g2, g3, g4, g5, g6])
   have HS1 := Lib.hid hS1
   clear p1 p2
   refine wpAnyH_one (i := 8) (by kernel_rfl) rfl (fun K hK => ?_)
   simp only [g4, g5, g6]
   go_simp
   go_at_call 15
   refine hsa.mono ?_
   rintro e w2 ⟨rfl, q2, rfl⟩
   have hS2 : (fun W' : World => W'.cell? (ad.add k) = some (.slice a r.length d) ∧ W'.cell? (ad2.add k) = some (.slice a2 r.length d2)) ((w.drewN q).drew.drewN q2) := HS1.out
   clear hsa
   refine hK.out _ _ hS2 (fun _ => ?_)
   try simp only [Act.put, g1, g2, g3, g4, g5, g6]
   refine wpH rfl rfl ?_; try simp only [Act.put, g1, g2, g3, g4, g5, g6]
   refine wpAnyH_done (by kernel_rfl) ?_ _
   clear hS1 hS2 hK
   go_wp2
   go_roundw
   case rel => exact ⟨k + 1, by omega, by go_num, Lib.hid ⟨_, rfl⟩⟩
   case measure => simp [intOf]; omega
  ·obtain rfl : k = rs.length := by omega
   go_wp2
   go_ret
   exact ⟨rfl, _, rfl⟩
end Go.Proofs.YtknjhlbhbnldpaaGreatDoor.C
