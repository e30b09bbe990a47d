/-
  The places of those that are as good as one, asked of a table. No condition but what each names.
-/
import Derived.Test.YtknjhlbhbnldpaaGreatDoorQKpC
import Derived.Test.YtknjhlbhbnldpaaGreatDoorB20
import Derived.Test.YtknjhlbhbnldpaaGreatDoorB22
import Derived.Test.YtknjhlbhbnldpaaGreatDoorB24
namespace Go.Proofs.YtknjhlbhbnldpaaGreatDoor.C
open Go.RowKit

set_option maxRecDepth 100000 in
set_option maxHeartbeats 4000000 in
theorem placesAlike_any (w : World) (T : Nat) (L : Loc) (n : Int) (i : Nat) (x : Elm) (h : TabAt w T L n) (hR : rightL L = true) (hx : L.ord[i]? = some x) :
  Calls Tryz.prog 66 #[.pointer (some ⟨T, 1, none⟩), .int .i64 (i : Int)] w fun e w' => ∃ v, e = .returned v ∧ TabAt w' T L n ∧ Fr w w' (· = T) ∧
   w'.ownsRow (T + 1) 3 1 v (placesL L.ord x.same).length ((placesL L.ord x.same).map fun i => .int .i64 (i : Nat)) := by
 have hord := right_ord hR
 obtain ⟨l, v1, v2, v3, v4, hr, h1, h2, h3, h4, h5, h6, h7, k1, k2, k3, k4, k5, k6⟩ := h.drew
 have hget := getII_any T 10 _ l w.drew 97 (.pointer (some ⟨T, 1, none⟩)) (PAlike T L.ord) hr k3 (fun W W' M h hf => h.fr hf) (fun args w => run_enter Tryz.func97 (by kernel_rfl) rfl args w) (fillAlike T _ l w.drew v4 L.ord h3 h7.2.2.2.1 hord hr.lt)
 have hmf : ∀ (fn : Fn) (first cap : Array Value) (w : World), (Instr.makeFunc fn first cap).run Tryz.prog w = .ok (.func fn first cap) w := fun _ _ _ _ => rfl
 have HS : Hid (∀ w' l', Fr w.drew w' (· = T) → Row w' T 107 l' → Lk l' 10 (PAlike T L.ord w') → Else l l' 10 → TabAt w' T L n) := Lib.hid (fun w' l' hf hr' hk' he => TabAt.step hf hr hr' 10 (by simp) he ⟨h1, h2, h3, h4, h5, h6, h7⟩ (.inr ⟨by omega, k1⟩) (.inr ⟨by omega, k2⟩) (.inl hk') (.inr ⟨by omega, k4⟩) (.inr ⟨by omega, k5⟩) (.inr ⟨by omega, k6⟩))
 have hE : ∀ l', Else l l' 10 → l'[1]? = some v4 := fun l' he => (he.2 1 (by omega) (by omega) (by omega)).trans h3
 have q4 : w.drew.cell? ⟨T, 1, none⟩ = some v4 := hr.cell h3
 obtain ⟨ad, c, Ac, cc, rfl, hbl, -, -, q5, -⟩ := elmR_at h7.2.2.2.1 hx
 have h500 : L.ord.length ≤ 500 := by unfold ordB at hord; simp only [Bool.and_eq_true, decide_eq_true_eq] at hord; exact hord.1
 have HTl : Hid (T < w.drew.heap.size ∧ ad.block < T) := Lib.hid ⟨hr.lt, hbl⟩
 have i0 : (0 : Int) ≤ (i : Int) := by omega
 have i1 : (i : Int) < (L.ord.length : Int) := by have := (List.getElem?_eq_some_iff.1 hx).1; omega
 have HX := Lib.hid hx
 have HEL := Lib.hid hE
 obtain ⟨nm, cl, sm⟩ := x
 simp only at q5
 clear hr h1 h2 h3 h4 h5 h6 h7 k1 k2 k3 k4 k5 k6 hord hbl h hx hE
 go_enter Tryz.func66, Tryz.ntmps66
 go_wp2
 refine wp_region_held (S := fun W' : World => W'.cell? ⟨T, 1, none⟩ = some (.slice (some ad) L.ord.length c) ∧ W'.cell? ⟨(ad.add (i * 3)).block, (ad.add (i * 3)).off + 2, none⟩ = some (.int .i64 sm)) (by kernel_rfl) ?_
 change wpAnyH _ _ _ _ _ _ _ _ w.drew
 have hS1 : (fun W' : World => W'.cell? ⟨T, 1, none⟩ = some (.slice (some ad) L.ord.length c) ∧ W'.cell? ⟨(ad.add (i * 3)).block, (ad.add (i * 3)).off + 2, none⟩ = some (.int .i64 sm)) w.drew := ⟨q4, q5⟩
 iterate 5 (refine wpH rfl rfl ?_; try simp only [Act.put, g1, g2, g3, g4, g5, g6])
 refine wpHn 6 rfl ?_; try simp only [Act.put, g1, g2, g3, g4, g5, g6]
 refine wpHn 7 rfl ?_; try simp only [Act.put, g1, g2, g3, g4, g5, g6]
 refine wpHn 8 rfl ?_; try simp only [Act.put, g1, g2, g3, g4, g5, g6]
 refine wpHn 9 rfl ?_; try simp only [Act.put, g1, g2, g3, g4, g5, g6]
 refine wpHn 10 rfl ?_; try simp only [Act.put, g1, g2, g3, g4, g5, g6]
 refine wpHn 11 rfl ?_; try simp only [Act.put, g1, g2, g3, g4, g5, g6]
 refine wpHn 12 rfl ?_; try simp only [Act.put, g1, g2, g3, g4, g5, g6]
 refine wpHn 13 rfl ?_; try simp only [Act.put, g1, g2, g3, g4, g5, g6]
 have HS1 := Lib.hid hS1
 clear q4 q5
 refine wpAnyH_one (i := 5) (by kernel_rfl) rfl (fun K hK => ?_)
 simp only [g4, g5, g6]
 go_simp
 refine hget.mono ?_
 rintro e w1 ⟨M, rfl, hp, hf, l', hr', hk', he⟩
 have HQ : Hid (TabAt w1 T L n ∧ Fr w w1 (· = T)) := Lib.hid ⟨HS.out _ _ hf hr' hk' he, (Fr.refl w _).drew.trans hf⟩
 have hbl := hf.belowT (Nat.le_of_lt HTl.out.1)
 have hS2 : (fun W' : World => W'.cell? ⟨T, 1, none⟩ = some (.slice (some ad) L.ord.length c) ∧ W'.cell? ⟨(ad.add (i * 3)).block, (ad.add (i * 3)).off + 2, none⟩ = some (.int .i64 sm)) w1 := ⟨hr'.cell (HEL.out l' he), (hbl.cell (p := ⟨(ad.add (i * 3)).block, (ad.add (i * 3)).off + 2, none⟩) (by show (ad.add (i * 3)).block < T; rw [block_of_add]; exact HTl.out.2)).trans HS1.out.2⟩
 obtain ⟨_, kv, hm, hall, hrows⟩ := hp
 obtain ⟨y, hy, hys⟩ := List.mem_map.1 (hall _ (List.mem_of_getElem? HX.out))
 obtain ⟨ys, yv⟩ := y
 simp only at hys
 subst hys
 have ho := hrows _ hy
 simp only at ho
 have q := hm.look_yes (P := Tryz.prog) Tryz.underlying78 Tryz.underlying3 (key := .int .i64 ys) (v := yv) (by first | trivial | rfl) (List.mem_map.2 ⟨_, hy, rfl⟩) false
 have HO := Lib.hid ho
 obtain ⟨Ay, cy, rfl⟩ := row_form ho
 clear hget hf hr' hk' he hbl hm hall hrows hy ho
 refine hK.out _ _ hS2 (fun _ => ?_)
 try simp only [Act.put, g1, g2, g3, g4, g5, g6]
 refine wpAnyH_one (i := 14) (by kernel_rfl) rfl (fun K hK => ?_)
 simp only [g4, g5, g6]
 go_simp
 refine hK.out _ _ hS2 (fun _ => ?_)
 try simp only [Act.put, g1, g2, g3, g4, g5, g6]
 refine wpH rfl rfl ?_; try simp only [Act.put, g1, g2, g3, g4, g5, g6]
 refine wpAnyH_done (by kernel_rfl) ?_ _
 clear hS1 hS2 hK q
 go_wp2
 go_ret
 exact ⟨_, rfl, HQ.out.1, HQ.out.2, HO.out⟩
end Go.Proofs.YtknjhlbhbnldpaaGreatDoor.C
