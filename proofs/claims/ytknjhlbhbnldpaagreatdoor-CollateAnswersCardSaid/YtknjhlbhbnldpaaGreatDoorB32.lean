/-
  Joined: KpO. Each with what its own head says.
-/
import Derived.Test.YtknjhlbhbnldpaaGreatDoorB27

namespace Go.Proofs.YtknjhlbhbnldpaaGreatDoor.C
open Go.RowKit

theorem infoRange8 : (Tryz.prog.info? 109).map (fun i => (i.zero, i.size, i.bytes)) = some (some (.agg #[.int .i32 0, .int .i32 0]), 2, 8) := by kernel_rfl
def flatP (ps : List (Int × Int)) : List Int := ps.flatMap fun p => [p.1, p.2]
theorem flatP_len (ps : List (Int × Int)) : (flatP ps).length = 2 * ps.length := by
 induction ps with
 | nil => rfl
 | cons p r ih => unfold flatP at ih ⊢; rw [List.flatMap_cons, List.length_append, ih, List.length_cons]; simp; omega
theorem flatP_at : ∀ {ps : List (Int × Int)} {m : Nat} {p : Int × Int}, ps[m]? = some p → (flatP ps)[2 * m]? = some p.1 ∧ (flatP ps)[2 * m + 1]? = some p.2
 | [], _, _, h => by cases h
 | q :: r, 0, p, h => by
  obtain rfl : q = p := by simpa using h
  exact ⟨rfl, rfl⟩
 | q :: r, m + 1, p, h => by
  have := flatP_at (ps := r) (m := m) (p := p) (by simpa using h)
  exact ⟨this.1, this.2⟩
theorem pair_new8 (w : World) (a b : Int) (t : TypeId) (j : Nat) (u : Value) (h : [Value.int .i32 a, .int .i32 b][j]? = some u) : (w.alloc (.cells #[.int .i32 a, .int .i32 b] t)).cell? ((⟨w.heap.size, 0, none⟩ : Addr).add j) = some u := by
 rcases j with _ | _ | j
 ·simp at h; subst h; simp [Addr.add, World.cell?_alloc_new]
 ·simp at h; subst h; simp [Addr.add, World.cell?_alloc_new]
 ·simp at h
set_option maxRecDepth 100000 in
set_option maxHeartbeats 8000000 in
theorem ranges08_any (w : World) (B : Nat) (A : Option Addr) (n c : Nat) (ps : List (Int × Int)) (hx : RI .i32 w B A n (flatP ps)) (hB : B ≤ w.heap.size) (hn : ps.length ≤ 1000) :
  Calls Tryz.prog 48 #[.slice A n c] w fun e w' => ∃ v, e = .returned v ∧ w'.ownsRow w.heap.size 109 2 v ps.length (prsC ps) ∧ Below w.heap.size w w' := by
 obtain ⟨i0, hi, hz0, hz1, hz2⟩ := info_parts infoRange8
 have hln : n = 2 * ps.length := by rw [← hx.len, flatP_len]
 have HX := Lib.hid hx
 clear hx
 go_enter Tryz.func48, Tryz.ntmps48
 go_wp2
 go_loopw [3, 4] (fun v iv wr => ∃ m : Nat, m ≤ ps.length ∧ iv = .int .i64 ((2 * m : Nat) : Int) ∧ Hid (wr.ownsRow w.heap.size 109 2 v m (prsC (ps.take m)) ∧ Below w.heap.size w wr)) (fun _ iv _ => 2 * ps.length - (intOf iv).toNat)
 case atStart => exact ⟨0, Nat.zero_le _, rfl, Lib.hid ⟨World.ownsRow_nil _ _ _ _, Below.refl _ _⟩⟩
 case round =>
  obtain ⟨m, hm, rfl, HV⟩ := hrel
  obtain ⟨k, hk⟩ : ∃ k, k = 2 * m := ⟨_, rfl⟩
  obtain ⟨k1, hk1⟩ : ∃ k1, k1 = k + 1 := ⟨_, rfl⟩
  obtain ⟨k2, hk2⟩ : ∃ k2, k2 = 2 * (m + 1) := ⟨_, rfl⟩
  rw [← hk]
  by_cases hlt : m < ps.length
  ·obtain ⟨p, hp⟩ : ∃ p, ps[m]? = some p := ⟨_, List.getElem?_eq_getElem hlt⟩
   obtain ⟨f1, f2⟩ := flatP_at hp
   obtain ⟨ad, rfl, had, hc⟩ := HX.out.2 (by omega)
   have hV := HV.out
   have c1 : wr.cell? (ad.add k) = some (.int .i32 p.1) := (hV.2.cell (p := ad.add k) (by rw [block_of_add]; omega)).trans (hc _ _ (by rw [hk]; exact f1))
   have c2 : wr.cell? (ad.add k1) = some (.int .i32 p.2) := (hV.2.cell (p := ad.add k1) (by rw [block_of_add]; omega)).trans (hc _ _ (by rw [hk1, hk]; exact f2))
   have HO := Lib.hid hV.1
   have HBW := Lib.hid hV.2
   have HP := Lib.hid hp
   have hsz := hV.2.size
   have w1 : IntKind.i64.wrap ((k : Int) + 1) = (k1 : Int) := by rw [IntKind.wrap_i64]; omega
   have w2 : IntKind.i64.wrap ((k : Int) + 2) = (k2 : Int) := by rw [IntKind.wrap_i64]; omega
   have i0' : (0 : Int) ≤ (k : Int) := by omega
   have i1 : (k : Int) < (n : Int) := by omega
   have i2 : (0 : Int) ≤ (k1 : Int) := by omega
   have i3 : (k1 : Int) < (n : Int) := by omega
   obtain ⟨pa, pb⟩ := p
   simp only at c1 c2
   have HK2 := Lib.hid hk2
   have HM : Hid (k2 = k + 2 ∧ k = 2 * m ∧ n = 2 * ps.length) := Lib.hid (by omega)
   clear hV hc f1 f2 hp hk hk1 hk2 hln
   go_wp2
   refine wp_region_held (S := fun W' : World => W'.cell? (ad.add k) = some (.int .i32 pa) ∧ W'.cell? (ad.add k1) = some (.int .i32 pb)) (by kernel_rfl) ?_
   change wpAnyH _ _ _ _ _ _ _ _ wr.drew
   have hS1 : (fun W' : World => W'.cell? (ad.add k) = some (.int .i32 pa) ∧ W'.cell? (ad.add k1) = some (.int .i32 pb)) wr.drew := ⟨c1, c2⟩
   iterate 11 (refine wpH rfl rfl ?_; try simp only [Act.put, g1, g2, g3, g4, g5, g6])
   have HS1 := Lib.hid hS1
   refine wpAnyH_one (i := 11) (by kernel_rfl) rfl (fun K hK => ?_)
   simp only [g4, g5, g6]
   go_simp
   obtain ⟨w3, hw3⟩ : ∃ w3, w3 = wr.drew.alloc (.cells #[.int .i32 pa, .int .i32 pb] 109) := ⟨_, rfl⟩
   have hb3 : Below wr.heap.size wr w3 := by rw [hw3]; exact (below_drew (Below.refl _ _)).alloc (Nat.le_refl _) _
   have hs3 : w3.heap.size = wr.heap.size + 1 := by rw [hw3]; simp
   have hS3 : (fun W' : World => W'.cell? (ad.add k) = some (.int .i32 pa) ∧ W'.cell? (ad.add k1) = some (.int .i32 pb)) w3 := ⟨below_cell (p := ad.add k) hb3 c1, below_cell (p := ad.add k1) hb3 c2⟩
   rw [show (wr.alloc (.cells #[.int .i32 pa, .int .i32 pb] 109)).drew = w3 from by rw [hw3]; rfl]
   have HB3 := Lib.hid hb3
   have HO3 := Lib.hid (own_next HO.out hb3)
   refine hK.out _ _ hS3 (fun _ => ?_)
   try simp only [Act.put, g1, g2, g3, g4, g5, g6]
   refine wpAnyH_one (i := 12) (by kernel_rfl) rfl (fun K hK => ?_)
   refine step_append_lies _ (by rfl) _ _ _ (by rfl) w.heap.size 109 i0 (.agg #[.int .i32 0, .int .i32 0]) 2 8 Tryz.underlying84 hi hz0 hz1 hz2 rfl (by decide) _ m (prsC (ps.take m)) (by rfl) HO3.out ⟨wr.heap.size, 0, none⟩ 1 1 [.int .i32 pa, .int .i32 pb] (by rfl) (by rfl) (by rw [hw3]; exact pair_new8 wr.drew pa pb _) (by intro u hu; simp at hu; rcases hu with rfl | rfl <;> rfl) (by omega) (by unfold maxLen; omega) (by omega) (by omega) _ rfl ?_
   intro g cap w5 hown5 hgr5 hat5 _
   have hb5 : Below w.heap.size w3 w5 := (Below.refl _ _).grown hgr5 (by omega) (fun b hb => (HO3.out.lt b hb).1)
   have hS5 : (fun W' : World => W'.cell? (ad.add k) = some (.int .i32 pa) ∧ W'.cell? (ad.add k1) = some (.int .i32 pb)) w5 := ⟨(hb5.cell (p := ad.add k) (by rw [block_of_add]; omega)).trans hS3.1, (hb5.cell (p := ad.add k1) (by rw [block_of_add]; omega)).trans hS3.2⟩
   have HEND : Hid (w5.ownsRow w.heap.size 109 2 (.slice (some ⟨g, 0, none⟩) (m + 1) cap) (m + 1) (prsC (ps.take (m + 1))) ∧ Below w.heap.size w w5) := Lib.hid ⟨by rw [take_one HP.out, prs_snocK]; exact hown5, (HBW.out.trans (HB3.out.mono hsz)).trans hb5⟩
   clear hown5 hgr5 hat5 hb5
   refine hK.out _ _ hS5 (fun _ => ?_)
   try simp only [Act.put, g1, g2, g3, g4, g5, g6]
   refine wpH rfl rfl ?_; try simp only [Act.put, g1, g2, g3, g4, g5, g6]
   refine wpAnyH_done (by kernel_rfl) ?_ _
   clear hS1 hS3 hS5 hK hb3 hw3 c1 c2
   go_wp2
   go_roundw
   case rel => exact ⟨m + 1, by omega, by rw [HK2.out], HEND⟩
   case measure => simp [intOf]; have := HM.out; omega
  ·obtain rfl : m = ps.length := by omega
   have hV := HV.out
   rw [List.take_length] at hV
   have w1 : IntKind.i64.wrap ((k : Int) + 1) = (k1 : Int) := by rw [IntKind.wrap_i64]; omega
   have i1 : ¬ (k1 : Int) < (n : Int) := by omega
   obtain ⟨A2, c2, rfl⟩ := row_form hV.1
   have HE := Lib.hid hV
   clear hV hk hk1 hk2 hln
   go_wp2
   go_ret
   exact ⟨_, rfl, HE.out⟩
end Go.Proofs.YtknjhlbhbnldpaaGreatDoor.C
